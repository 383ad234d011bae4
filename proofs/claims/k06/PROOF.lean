import PyProof.Rows.All
import Wide.All
import OpenK.AllK
import Wide.FinOn
import HandS.ForMost
import HandS.IsInst
import HandS.TupAny
import HandS.TupMul
import HandS.Style
import HandS.Deep
import HandS.Wide
import HandS.Dict
import HandS.AnyAll
import KE.DataEq
import HandS.Flt
import HandS.TupLe
import HandS.DictComp
import HandS.Small
import HandS.Rev
import PyProof.TupleOfGen
import PyProof.GenCompD
import HandS.Conv
import HandS.TupSets
import HandS.SetFor
import HandS.Sort
import HandS.Nested
import HandS.Zip
import HandS.EndTab
import KE.KNestM
import PySem.Challenge.RW_twobesides_k06_whole_companies
set_option Elab.async false
set_option linter.all false
set_option maxRecDepth 100000
set_option maxHeartbeats 4000000
/-! ML1: a mirror of a def's body by plain functions over data, and what it says of the heap. -/
namespace NL
open PySem PySem.Spec PyProof.Rows L2

/-- data: what a value says, with the tuples and lists told through; mu n: the n-th list that may change; fz: a list that nobody may change; dk, dt: a dict (keys ints and texts; tuples of them); ins: an instance; ct: a tuple of the written part -/
inductive D where
  | non | bl (b : Bool) | int (i : Int) | str (x : Str) | tup (xs : List D) | lst (xs : List D) | mu (n : Nat) | fz (xs : List D)
  | dk (ks : List Key) (vs : List D) | dt (ks : List (List Key)) (vs : List D) | ins (C : Addr) (ns : List Str) (vs : List D) | ct (xs : List D)

abbrev MM := List D
abbrev En := List (Option D)
abbrev FE := En → MM → Option (D × MM)
abbrev FB := En → MM → Option (Bool × MM)
abbrev FA := En → MM → Option (List D × MM)
inductive Out where
  | nx (r : En) | rt (d : D) | bk (r : En) | ct (r : En)
abbrev FS := En → MM → Option (Out × MM)
abbrev FT := D → En → Option En
abbrev FC := List D → MM → Option (D × MM)

/-- a list that nobody may change: the script's, or one of the written part -/
def Fz (K : PySem.W.Frag) (H : Hp) (a : Addr) (xs : List V) : Prop := (∃ o : Obj, H a = some (.frz o (.lst xs))) ∨
  ∃ (o : Obj) (its : Array Value) (n : Nat), K.lookup a = some o ∧ o.cls = .type "list" ∧ o.dict = none ∧ o.data = .seq its n ∧ its.size ≤ sizeLine ∧ Vals xs its.toList
theorem Fz.sq {K : PySem.W.Frag} {H : Hp} {a : Addr} {xs : List V} (h : Fz K H a xs) : SqL K H a xs := by
  rcases h with ⟨o, h⟩ | h
  · exact .inl (.inr ⟨o, h⟩)
  · exact .inr h
mutual
inductive RV (K : PySem.W.Frag) (H : Hp) (ms ex : List Addr) : V → D → Prop
  | non : RV K H ms ex .non .non
  | bl (b : Bool) : RV K H ms ex (.bl b) (.bl b)
  | int (i : Int) : RV K H ms ex (.int i) (.int i)
  | str (x : Str) : RV K H ms ex (.str x) (.str x)
  | tup {a : Addr} {xs : List V} {ds : List D} : H a = some (.tup xs) → RVs K H ms ex xs ds → RV K H ms ex (.ref a) (.tup ds)
  | fz {a : Addr} {xs : List V} {ds : List D} : Fz K H a xs → RVs K H ms ex xs ds → RV K H ms ex (.ref a) (.fz ds)
  | lst {a : Addr} {xs : List V} {ds : List D} : H a = some (.lst xs) → a ∉ ms → a ∉ ex → RVs K H ms ex xs ds → RV K H ms ex (.ref a) (.lst ds)
  | ct {a : Addr} {xs : List V} {ds : List D} : SqT K H a xs → RVs K H ms ex xs ds → RV K H ms ex (.ref a) (.ct ds)
  | mu {a : Addr} {n : Nat} : ms[n]? = some a → RV K H ms ex (.ref a) (.mu n)
  | dk {a : Addr} {ks : List Key} {xs : List V} {ds : List D} : H a = some (.dK (ks.zip xs)) → a ∉ ms → a ∉ ex → ks.length = ds.length → RVs K H ms ex xs ds → RV K H ms ex (.ref a) (.dk ks ds)
  | dt {a : Addr} {ks : List (List Key)} {xs : List V} {ds : List D} : Rd H a (.dT (ks.zip xs)) → a ∉ ms → a ∉ ex → ks.length = ds.length → RVs K H ms ex xs ds → RV K H ms ex (.ref a) (.dt ks ds)
  | ins {a C dx : Addr} {ns : List Str} {xs : List V} {ds : List D} : H a = some (.ins C dx (ns.zip xs)) → a ∉ ms → a ∉ ex → ns.length = ds.length → RVs K H ms ex xs ds → RV K H ms ex (.ref a) (.ins C ns ds)
inductive RVs (K : PySem.W.Frag) (H : Hp) (ms ex : List Addr) : List V → List D → Prop
  | nil : RVs K H ms ex [] []
  | cons {v : V} {vs : List V} {d : D} {ds : List D} : RV K H ms ex v d → RVs K H ms ex vs ds → RVs K H ms ex (v :: vs) (d :: ds)
end

variable {tb : List Addr} {K : PySem.W.Frag} {H H' H1 : Hp} {ms ms' ex ex' : List Addr} {M M' M1 : MM}

theorem RVs.length : ∀ {vs : List V} {ds : List D}, RVs K H ms ex vs ds → vs.length = ds.length
  | _, _, .nil => rfl
  | _, _, .cons _ t => by simp [RVs.length t]
theorem RVs.get : ∀ {vs : List V} {ds : List D} {i : Nat} {d : D}, RVs K H ms ex vs ds → ds[i]? = some d → ∃ v, vs[i]? = some v ∧ RV K H ms ex v d
  | _, _, _, _, .nil, e => by simp at e
  | _, _, 0, _, .cons r _, e => by simp at e; subst e; exact ⟨_, rfl, r⟩
  | _, _, i + 1, d, .cons _ t, e => by
    obtain ⟨u, h1, h2⟩ := RVs.get (i := i) (d := d) t (by simpa using e)
    exact ⟨u, by simpa using h1, h2⟩
theorem RVs.get' : ∀ {vs : List V} {ds : List D} {i : Nat} {v : V}, RVs K H ms ex vs ds → vs[i]? = some v → ∃ d, ds[i]? = some d ∧ RV K H ms ex v d
  | _, _, _, _, .nil, e => by simp at e
  | _, _, 0, _, .cons r _, e => by simp at e; subst e; exact ⟨_, rfl, r⟩
  | _, _, i + 1, d, .cons _ t, e => by
    obtain ⟨u, h1, h2⟩ := RVs.get' (i := i) (v := d) t (by simpa using e)
    exact ⟨u, by simpa using h1, h2⟩
theorem RVs.append : ∀ {xs ys : List V} {ds es : List D}, RVs K H ms ex xs ds → RVs K H ms ex ys es → RVs K H ms ex (xs ++ ys) (ds ++ es)
  | _, _, _, _, .nil, s => s
  | _, _, _, _, .cons r t, s => .cons r (RVs.append t s)
theorem RVs.take : ∀ {xs : List V} {ds : List D} (n : Nat), RVs K H ms ex xs ds → RVs K H ms ex (xs.take n) (ds.take n)
  | _, _, 0, _ => .nil
  | _, _, _ + 1, .nil => .nil
  | _, _, n + 1, .cons r t => .cons r (RVs.take n t)
theorem RVs.drop : ∀ {xs : List V} {ds : List D} (n : Nat), RVs K H ms ex xs ds → RVs K H ms ex (xs.drop n) (ds.drop n)
  | _, _, 0, r => r
  | _, _, _ + 1, .nil => .nil
  | _, _, n + 1, .cons _ t => RVs.drop n t
theorem RVs.set {v : V} {d : D} (r : RV K H ms ex v d) : ∀ {xs : List V} {ds : List D} (i : Nat), RVs K H ms ex xs ds → RVs K H ms ex (xs.set i v) (ds.set i d)
  | _, _, _, .nil => .nil
  | _, _, 0, .cons _ t => .cons r t
  | _, _, i + 1, .cons q t => .cons q (RVs.set r i t)
theorem RVs.rep {xs : List V} {ds : List D} (h : RVs K H ms ex xs ds) : ∀ k : Nat, RVs K H ms ex (List.replicate k xs).flatten (List.replicate k ds).flatten
  | 0 => .nil
  | k + 1 => by rw [List.replicate_succ, List.replicate_succ, List.flatten_cons, List.flatten_cons]; exact h.append (RVs.rep h k)
theorem RVs.ints : ∀ {vs : List V} {ns : List Int}, RVs K H ms ex vs (ns.map D.int) → vs = ns.map V.int
  | _, [], h => by cases h; rfl
  | _, n :: ns, h => by
    cases h with
    | cons a b => cases a; rw [RVs.ints b]; rfl
theorem RVs.bools : ∀ {vs : List V} {ns : List Bool}, RVs K H ms ex vs (ns.map D.bl) → vs = ns.map V.bl
  | _, [], h => by cases h; rfl
  | _, n :: ns, h => by
    cases h with
    | cons a b => cases a; rw [RVs.bools b]; rfl
theorem RVs.of_ints : ∀ (ns : List Int), RVs K H ms ex (ns.map V.int) (ns.map D.int)
  | [] => .nil
  | n :: ns => .cons (.int n) (RVs.of_ints ns)

/-- from one heap to the next: what is tracked stays, but for the lists that may change -/
structure Ext (ms : List Addr) (H H' : Hp) : Prop where
  keep : ∀ a o, H a = some o → a ∉ ms → (∀ ps, o ≠ .tbl ps) → H' a = some o
  tab : ∀ a ps, H a = some (.tbl ps) → a ∉ ms → ∃ ps', H' a = some (.tbl ps')
instance : CoeFun (Ext ms H H') fun _ => ∀ a o, H a = some o → a ∉ ms → (∀ ps, o ≠ .tbl ps) → H' a = some o := ⟨Ext.keep⟩
theorem Ext.refl (H : Hp) : Ext ms H H := ⟨fun _ _ h _ _ => h, fun _ ps h _ => ⟨ps, h⟩⟩
theorem Ext.trans (a : Ext ms H H1) (b : Ext ms H1 H') : Ext ms H H' := ⟨fun c o h n t => b c o (a c o h n t) n t, fun c ps h n => by
    obtain ⟨ps', h'⟩ := a.tab c ps h n
    exact b.tab c ps' h' n⟩
theorem Ext.of (h : Same H H') : Ext ms H H' := ⟨fun a o e _ _ => h a o e, fun a ps e _ => ⟨ps, h _ _ e⟩⟩
theorem Ext.gone {a : Addr} (x : Ext ms H H') (n : a ∉ ms) (h : H' a = none) : H a = none := by
  cases e : H a with
  | none => rfl
  | some o =>
    by_cases t : ∃ ps, o = .tbl ps
    · obtain ⟨ps, rfl⟩ := t
      obtain ⟨ps', e'⟩ := x.tab a ps e n
      rw [h] at e'
      cases e'
    · have := x a o e n fun ps z => t ⟨ps, z⟩
      rw [h] at this
      cases this

/-- what may change or is being made -/
def Thing (H : Hp) (a : Addr) : Prop := (∃ xs, H a = some (.lst xs)) ∨ (∃ kvs, H a = some (.dK kvs)) ∨ ∃ kvs, H a = some (.dT kvs)
theorem Thing.ne {a : Addr} {o : HO} (t : Thing H a) (e : H a = some o) (h1 : ∀ xs, o ≠ .lst xs) (h2 : ∀ kvs, o ≠ .dK kvs) (h3 : ∀ kvs, o ≠ .dT kvs) : False := by
  rcases t with ⟨xs, q⟩ | ⟨xs, q⟩ | ⟨xs, q⟩
  · rw [e] at q; exact h1 xs (Option.some.inj q)
  · rw [e] at q; exact h2 xs (Option.some.inj q)
  · rw [e] at q; exact h3 xs (Option.some.inj q)
theorem Thing.same {a : Addr} {H' : Hp} (t : Thing H a) (e : Same H H') : Thing H' a := by
  rcases t with ⟨xs, q⟩ | ⟨xs, q⟩ | ⟨xs, q⟩
  · exact .inl ⟨xs, e _ _ q⟩
  · exact .inr (.inl ⟨xs, e _ _ q⟩)
  · exact .inr (.inr ⟨xs, e _ _ q⟩)
/-- the thing at a says d, whoever may change it -/
inductive Raw (K : PySem.W.Frag) (H : Hp) (ms ex : List Addr) (a : Addr) : D → Prop
  | lst {xs : List V} {ds : List D} : H a = some (.lst xs) → RVs K H ms ex xs ds → Raw K H ms ex a (.lst ds)
  | dk {ks : List Key} {xs : List V} {ds : List D} : H a = some (.dK (ks.zip xs)) → ks.length = ds.length → RVs K H ms ex xs ds → Raw K H ms ex a (.dk ks ds)
  | dt {ks : List (List Key)} {xs : List V} {ds : List D} : H a = some (.dT (ks.zip xs)) → ks.length = ds.length → RVs K H ms ex xs ds → Raw K H ms ex a (.dt ks ds)
theorem Raw.thing {a : Addr} {d : D} (h : Raw K H ms ex a d) : Thing H a := by
  cases h with
  | lst e _ => exact .inl ⟨_, e⟩
  | dk e _ _ => exact .inr (.inl ⟨_, e⟩)
  | dt e _ _ => exact .inr (.inr ⟨_, e⟩)
theorem Raw.of {a : Addr} {d : D} {H' : Hp} {ms' ex' : List Addr} (h : Raw K H ms ex a d) (e : ∀ o, H a = some o → (∀ ps, o ≠ .tbl ps) → H' a = some o) (k : ∀ {v : List V} {ds : List D}, RVs K H ms ex v ds → RVs K H' ms' ex' v ds) : Raw K H' ms' ex' a d := by
  cases h with
  | lst q r => exact .lst (e _ q fun _ z => by cases z) (k r)
  | dk q l r => exact .dk (e _ q fun _ z => by cases z) l (k r)
  | dt q l r => exact .dt (e _ q fun _ z => by cases z) l (k r)
/-- the lists that may change, and those that are being made -/
structure RM (tb : List Addr) (K : PySem.W.Frag) (H : Hp) (ms ex : List Addr) (M : MM) : Prop where
  len : ms.length = M.length
  nd : ms.Nodup
  at_ : ∀ (n : Nat) (a : Addr) (ds : D), ms[n]? = some a → M[n]? = some ds → Raw K H ms ex a ds
  exs : ∀ a ∈ ex, a ∉ ms ∧ Thing H a
  tbs : ∀ a ∈ tb, GxR.TabG H a
theorem RM.lst (h : RM tb K H ms ex M) {a : Addr} (ha : a ∈ ms ∨ a ∈ ex) : Thing H a := by
  rcases ha with ha | ha
  · obtain ⟨n, hn, e⟩ := List.getElem_of_mem ha
    have e1 : ms[n]? = some a := by rw [List.getElem?_eq_getElem hn, e]
    have hn' : n < M.length := by rw [← h.len]; exact hn
    exact (h.at_ n a M[n] e1 (List.getElem?_eq_getElem hn')).thing
  · exact (h.exs a ha).2

theorem SqT.stay {a : Addr} {xs : List V} (hw : ∀ b, b ∈ ms ∨ b ∈ ex → Thing H b) (k : ∀ b o, H b = some o → b ∉ ms → b ∉ ex → (∀ ps, o ≠ .tbl ps) → H' b = some o) (h : SqT K H a xs) : SqT K H' a xs := by
  have nm : ∀ o, H a = some o → (∀ ys, o ≠ .lst ys) → (∀ ys, o ≠ .dK ys) → (∀ ys, o ≠ .dT ys) → a ∉ ms ∧ a ∉ ex := fun o e d d2 d3 => ⟨fun z => (hw a (.inl z)).ne e d d2 d3, fun z => (hw a (.inr z)).ne e d d2 d3⟩
  rcases h with (h | ⟨o, h⟩) | h
  · obtain ⟨n1, n2⟩ := nm _ h (fun ys z => by cases z) (fun ys z => by cases z) (fun ys z => by cases z)
    exact .inl (.inl (k a _ h n1 n2 fun _ z => by cases z))
  · obtain ⟨n1, n2⟩ := nm _ h (fun ys z => by cases z) (fun ys z => by cases z) (fun ys z => by cases z)
    exact .inl (.inr ⟨o, k a _ h n1 n2 fun _ z => by cases z⟩)
  · exact .inr h

mutual
theorem RV.mono (h1 : ∀ (n : Nat) (a : Addr), ms[n]? = some a → ms'[n]? = some a) (h2 : ∀ a o, H a = some o → (a ∈ ms' → a ∈ ms) ∧ (a ∈ ex' → a ∈ ms ∨ a ∈ ex))
    (hw : ∀ b, b ∈ ms ∨ b ∈ ex → Thing H b) (k : ∀ b o, H b = some o → b ∉ ms → b ∉ ex → (∀ ps, o ≠ .tbl ps) → H' b = some o) : ∀ {v : V} {d : D}, RV K H ms ex v d → RV K H' ms' ex' v d
  | _, _, .non => .non
  | _, _, .bl b => .bl b
  | _, _, .int i => .int i
  | _, _, .str x => .str x
  | _, _, .tup (a := a) s r => .tup (k a _ s (fun z => (hw a (.inl z)).ne s (fun _ y => by cases y) (fun _ y => by cases y) fun _ y => by cases y) (fun z => (hw a (.inr z)).ne s (fun _ y => by cases y) (fun _ y => by cases y) fun _ y => by cases y) fun _ y => by cases y) (RVs.mono h1 h2 hw k r)
  | _, _, .ct s r => .ct (SqT.stay hw k s) (RVs.mono h1 h2 hw k r)
  | _, _, .fz (a := a) s r => by
    refine .fz ?_ (RVs.mono h1 h2 hw k r)
    rcases s with ⟨o, s⟩ | s
    · exact .inl ⟨o, k a _ s (fun z => (hw a (.inl z)).ne s (fun _ y => by cases y) (fun _ y => by cases y) fun _ y => by cases y) (fun z => (hw a (.inr z)).ne s (fun _ y => by cases y) (fun _ y => by cases y) fun _ y => by cases y) fun _ y => by cases y⟩
    · exact .inr s
  | _, _, .dk (a := a) s n1 n2 l r => .dk (k a _ s n1 n2 fun _ z => by cases z) (fun z => n1 ((h2 a _ s).1 z)) (fun z => ((h2 a _ s).2 z).elim n1 n2) l (RVs.mono h1 h2 hw k r)
  | _, _, .dt (a := a) s n1 n2 l r => by
    have r' := RVs.mono h1 h2 hw k r
    rcases s with s | ⟨o, s⟩
    · exact .dt (.inl (k a _ s n1 n2 fun _ z => by cases z)) (fun z => n1 ((h2 a _ s).1 z)) (fun z => ((h2 a _ s).2 z).elim n1 n2) l r'
    · exact .dt (.inr ⟨o, k a _ s n1 n2 fun _ z => by cases z⟩) (fun z => n1 ((h2 a _ s).1 z)) (fun z => ((h2 a _ s).2 z).elim n1 n2) l r'
  | _, _, .ins (a := a) s n1 n2 l r => .ins (k a _ s n1 n2 fun _ z => by cases z) (fun z => n1 ((h2 a _ s).1 z)) (fun z => ((h2 a _ s).2 z).elim n1 n2) l (RVs.mono h1 h2 hw k r)
  | _, _, .lst (a := a) s n1 n2 r => .lst (k a _ s n1 n2 fun _ z => by cases z) (fun z => n1 ((h2 a _ s).1 z)) (fun z => ((h2 a _ s).2 z).elim n1 n2) (RVs.mono h1 h2 hw k r)
  | _, _, .mu e => .mu (h1 _ _ e)
theorem RVs.mono (h1 : ∀ (n : Nat) (a : Addr), ms[n]? = some a → ms'[n]? = some a) (h2 : ∀ a o, H a = some o → (a ∈ ms' → a ∈ ms) ∧ (a ∈ ex' → a ∈ ms ∨ a ∈ ex))
    (hw : ∀ b, b ∈ ms ∨ b ∈ ex → Thing H b) (k : ∀ b o, H b = some o → b ∉ ms → b ∉ ex → (∀ ps, o ≠ .tbl ps) → H' b = some o) : ∀ {v : List V} {d : List D}, RVs K H ms ex v d → RVs K H' ms' ex' v d
  | _, _, .nil => .nil
  | _, _, .cons a b => .cons (RV.mono h1 h2 hw k a) (RVs.mono h1 h2 hw k b)
end
theorem RV.ext {v : V} {d : D} (m : RM tb K H ms ex M) (e : Ext ms H H') (h : RV K H ms ex v d) : RV K H' ms ex v d :=
  RV.mono (fun _ _ z => z) (fun _ _ _ => ⟨id, .inr⟩) (fun _ z => m.lst z) (fun b o q n _ t => e b o q n t) h
theorem RVs.ext {v : List V} {d : List D} (m : RM tb K H ms ex M) (e : Ext ms H H') (h : RVs K H ms ex v d) : RVs K H' ms ex v d :=
  RVs.mono (fun _ _ z => z) (fun _ _ _ => ⟨id, .inr⟩) (fun _ z => m.lst z) (fun b o q n _ t => e b o q n t) h
theorem RM.same (m : RM tb K H ms ex M) (e : Same H H') : RM tb K H' ms ex M :=
  ⟨m.len, m.nd, fun n a ds h1 h2 => (m.at_ n a ds h1 h2).of (fun o q _ => e _ _ q) fun r => RVs.ext m (Ext.of e) r, fun a h => ⟨(m.exs a h).1, (m.exs a h).2.same e⟩, fun a h => by
    obtain ⟨ps, q, t⟩ := m.tbs a h
    exact ⟨ps, e _ _ q, t⟩⟩
theorem same_new {p : Addr} {o : HO} (h : H p = none) : Same H (upd H p o) := fun b x e => by
  rw [upd_ne (ne_of_none e h)]
  exact e

/-- the slots -/
structure Sl (K : PySem.W.Frag) (H : Hp) (ms ex : List Addr) (σ : L2.St) (r : En) : Prop where
  len : σ.length = r.length
  at_ : ∀ (i : Nat) (d : D), r[i]? = some (some d) → ∃ v, σ[i]? = some (some v) ∧ RV K H ms ex v d
theorem Sl.ext {σ : L2.St} {r : En} (m : RM tb K H ms ex M) (e : Ext ms H H') (h : Sl K H ms ex σ r) : Sl K H' ms ex σ r :=
  ⟨h.len, fun i d q => by
    obtain ⟨v, a, b⟩ := h.at_ i d q
    exact ⟨v, a, b.ext m e⟩⟩
theorem Sl.set {σ : L2.St} {r : En} {i : Nat} {v : V} {d : D} (h : Sl K H ms ex σ r) (hv : RV K H ms ex v d) : Sl K H ms ex (σ.set i (some v)) (r.set i (some d)) :=
  ⟨by simp [h.len], fun j e q => by
    by_cases hj : i = j
    · subst hj
      by_cases hi : i < r.length
      · rw [List.getElem?_set_self hi] at q
        cases q
        exact ⟨v, by rw [List.getElem?_set_self (by rw [h.len]; exact hi)], hv⟩
      · rw [List.getElem?_eq_none (by simpa using hi)] at q
        cases q
    · rw [List.getElem?_set_ne hj] at q
      obtain ⟨w, a, b⟩ := h.at_ j e q
      exact ⟨w, by rw [List.getElem?_set_ne hj]; exact a, b⟩⟩

/-! ### readings -/
def eM (tb : List Addr) (K : PySem.W.Frag) (f : FE) : TE := fun σ H Q => ∃ ms ex r M d M', RM tb K H ms ex M ∧ Sl K H ms ex σ r ∧ f r M = some (d, M') ∧ ∀ H' v, Ext ms H H' → RM tb K H' ms ex M' → RV K H' ms ex v d → Q v H'
def bM (tb : List Addr) (K : PySem.W.Frag) (f : FB) : TT := fun σ H Q => ∃ ms ex r M d M', RM tb K H ms ex M ∧ Sl K H ms ex σ r ∧ f r M = some (d, M') ∧ ∀ H', Ext ms H H' → RM tb K H' ms ex M' → Q d H'
def aM (tb : List Addr) (K : PySem.W.Frag) (f : FA) : TA := fun σ H Q => ∃ ms ex r M d M', RM tb K H ms ex M ∧ Sl K H ms ex σ r ∧ f r M = some (d, M') ∧ ∀ H' v, Ext ms H H' → RM tb K H' ms ex M' → RVs K H' ms ex v d → Q v H'
def oEnd (K : PySem.W.Frag) (ms ex : List Addr) (D : Ends) (H' : Hp) : Out → Prop
  | .nx r => ∀ σ', Sl K H' ms ex σ' r → D.nx σ' H'
  | .rt d => ∀ v, RV K H' ms ex v d → D.rt v H'
  | .bk r => ∀ σ', Sl K H' ms ex σ' r → D.bk σ' H'
  | .ct r => ∀ σ', Sl K H' ms ex σ' r → D.ct σ' H'
def sM (tb : List Addr) (K : PySem.W.Frag) (f : FS) : TS := fun D σ H => ∃ ms ex r M o M', RM tb K H ms ex M ∧ Sl K H ms ex σ r ∧ f r M = some (o, M') ∧ ∀ H', Ext ms H H' → RM tb K H' ms ex M' → oEnd K ms ex D H' o
def gM (K : PySem.W.Frag) (f : FT) : TG := fun v σ H Q => ∃ ms ex r d r', Sl K H ms ex σ r ∧ RV K H ms ex v d ∧ f d r = some r' ∧ ∀ σ', Sl K H ms ex σ' r' → Q σ' H
def gsM (K : PySem.W.Frag) (f : List D → En → Option En) : TGs := fun v σ H Q => ∃ ms ex r d r', Sl K H ms ex σ r ∧ RVs K H ms ex v d ∧ f d r = some r' ∧ ∀ σ', Sl K H ms ex σ' r' → Q σ' H
def spM (tb : List Addr) (K : PySem.W.Frag) (n : Nat) (g : FC) : Sp := fun vs H Q _ => ∃ ms ex M ds d M', RM tb K H ms ex M ∧ RVs K H ms ex vs ds ∧ ds.length = n ∧ g ds M = some (d, M') ∧ ∀ H' v, Ext ms H H' → RM tb K H' ms ex M' → RV K H' ms ex v d → Q v H'

section
variable {X : Cx} {e : Expr} {es : List Expr} {st : Stmt} {sts : List Stmt}
theorem _root_.L2.PE.weak {t t' : TE} (h : PE X e t) (k : ∀ σ H Q, t' σ H Q → t σ H Q) : PE X e t' := ⟨fun pins s σ H Q I q => h.run pins s σ H Q I (k σ H Q q)⟩
theorem _root_.L2.PT.weak {t t' : TT} (h : PT X e t) (k : ∀ σ H Q, t' σ H Q → t σ H Q) : PT X e t' := ⟨fun pins s σ H Q I q => h.run pins s σ H Q I (k σ H Q q)⟩
theorem _root_.L2.PW.weak {t t' : TT} (h : PW X e t) (k : ∀ σ H Q, t' σ H Q → t σ H Q) : PW X e t' := ⟨fun wh pins s σ H Q I q => h.run wh pins s σ H Q I (k σ H Q q)⟩
theorem _root_.L2.PA.weak {t t' : TA} (h : PA X es t) (k : ∀ σ H Q, t' σ H Q → t σ H Q) : PA X es t' := ⟨fun pos pins s σ H Q I q => h.run pos pins s σ H Q I (k σ H Q q)⟩
theorem _root_.L2.PS.weak {t t' : TS} (h : PS X st t) (k : ∀ D σ H, t' D σ H → t D σ H) : PS X st t' := ⟨fun pins s σ H D I q => h.run pins s σ H D I (k D σ H q)⟩
theorem _root_.L2.PSs.weak {t t' : TS} (h : PSs X sts t) (k : ∀ D σ H, t' D σ H → t D σ H) : PSs X sts t' := ⟨fun pins s σ H D I q => h.run pins s σ H D I (k D σ H q)⟩
theorem _root_.L2.PG.weak {t t' : TG} (h : PG X e t) (k : ∀ v σ H Q, t' v σ H Q → t v σ H Q) : PG X e t' := ⟨fun pins s σ H v u Q I r q => h.run pins s σ H v u Q I r (k v σ H Q q)⟩
theorem _root_.L2.PGs.weak {t t' : TGs} (h : PGs X es t) (k : ∀ v σ H Q, t' v σ H Q → t v σ H Q) : PGs X es t' := ⟨fun pins s σ H v u Q I r q => h.run pins s σ H v u Q I r (k v σ H Q q)⟩
end
end NL

/-! ML2: expressions. -/
namespace NL
open PySem PySem.Spec PyProof.Rows L2
variable {tb : List Addr} {K : PySem.W.Frag} {H H' H1 : Hp} {ms ms' ex ex' : List Addr} {M M' M1 : MM}

/-! ### plain functions -/
def mVar (i : Nat) : FE := fun r M => match r[i]? with
  | some (some d) => some (d, M)
  | _ => none
def mC (d : D) : FE := fun _ M => some (d, M)
def mNil : FA := fun _ M => some ([], M)
def mCons (f : FE) (g : FA) : FA := fun r M => match f r M with
  | some (d, M1) => match g r M1 with
    | some (ds, M2) => some (d :: ds, M2)
    | none => none
  | none => none
def mTup (f : FA) : FE := fun r M => match f r M with
  | some (ds, M1) => some (.tup ds, M1)
  | none => none
def mLst (f : FA) : FE := fun r M => match f r M with
  | some (ds, M1) => some (.lst ds, M1)
  | none => none
/-- an operator upon two values -/
def mOp (o : MM → D → D → Option D) (f g : FE) : FE := fun r M => match f r M with
  | some (x, M1) => match g r M1 with
    | some (y, M2) => match o M2 x y with
      | some z => some (z, M2)
      | none => none
    | none => none
  | none => none
def mUn (o : D → Option D) (f : FE) : FE := fun r M => match f r M with
  | some (x, M1) => match o x with
    | some z => some (z, M1)
    | none => none
  | none => none
def mB (f : FE) : FB := fun r M => match f r M with
  | some (.bl b, M1) => some (b, M1)
  | _ => none
def mAnd (f g : FE) : FE := fun r M => match f r M with
  | some (.bl true, M1) => g r M1
  | some (.bl false, M1) => some (.bl false, M1)
  | _ => none
def mOr (f g : FE) : FE := fun r M => match f r M with
  | some (.bl true, M1) => some (.bl true, M1)
  | some (.bl false, M1) => g r M1
  | _ => none
def mNot (f : FE) : FE := fun r M => match f r M with
  | some (.bl b, M1) => some (.bl (!b), M1)
  | _ => none
def mIf (c : FE) (f g : FE) : FE := fun r M => match c r M with
  | some (.bl true, M1) => f r M1
  | some (.bl false, M1) => g r M1
  | _ => none
def mChain (o o' : MM → D → D → Option D) (f g h : FE) : FE := fun r M => match f r M with
  | some (x, M1) => match g r M1 with
    | some (y, M2) => match o M2 x y with
      | some (.bl true) => match h r M2 with
        | some (z, M3) => match o' M3 y z with
          | some (.bl b) => some (.bl b, M3)
          | _ => none
        | none => none
      | some (.bl false) => some (.bl false, M2)
      | _ => none
    | none => none
  | none => none
/-- a function of values upon an argument list -/
def mFn (o : MM → List D → Option D) (f : FA) : FE := fun r M => match f r M with
  | some (ds, M1) => match o M1 ds with
    | some z => some (z, M1)
    | none => none
  | none => none
def mCall (g : FC) (f : FA) : FE := fun r M => match f r M with
  | some (ds, M1) => g ds M1
  | none => none

/-! ### what a rule by values wants -/
def OpS (tb : List Addr) (K : PySem.W.Frag) (r : R2) (o : MM → D → D → Option D) : Prop := ∀ (H : Hp) (ms ex : List Addr) (M : MM) (v u : V) (x y z : D) (Q : VK), RM tb K H ms ex M → RV K H ms ex v x → RV K H ms ex u y → o M x y = some z →
  (∀ H' v', Ext ms H H' → RM tb K H' ms ex M → RV K H' ms ex v' z → Q v' H') → r v u H Q
def UnS (tb : List Addr) (K : PySem.W.Frag) (r : V → Hp → VK → Prop) (o : D → Option D) : Prop := ∀ (H : Hp) (ms ex : List Addr) (M : MM) (v : V) (x z : D) (Q : VK), RM tb K H ms ex M → RV K H ms ex v x → o x = some z →
  (∀ H' v', Ext ms H H' → RM tb K H' ms ex M → RV K H' ms ex v' z → Q v' H') → r v H Q
def CallS (tb : List Addr) (K : PySem.W.Frag) (r : List V → Hp → VK → Prop) (o : MM → List D → Option D) : Prop := ∀ (H : Hp) (ms ex : List Addr) (M : MM) (v : List V) (x : List D) (z : D) (Q : VK), RM tb K H ms ex M → RVs K H ms ex v x → o M x = some z →
  (∀ H' v', Ext ms H H' → RM tb K H' ms ex M → RV K H' ms ex v' z → Q v' H') → r v H Q

section
variable {X : Cx} {pos : Pos} {a b c : Expr} {es : List Expr} {f g h : FE} {fa : FA}

theorem eM.use {σ : L2.St} {r : En} {f : FE} {d : D} {Q : VK} (m : RM tb K H ms ex M) (s : Sl K H ms ex σ r) (e : f r M = some (d, M'))
    (q : ∀ H' v, Ext ms H H' → RM tb K H' ms ex M' → Sl K H' ms ex σ r → RV K H' ms ex v d → Q v H') : eM tb K f σ H Q :=
  ⟨ms, ex, r, M, d, M', m, s, e, fun H' v x m' rv => q H' v x m' (s.ext m x) rv⟩
theorem aM.use {σ : L2.St} {r : En} {f : FA} {d : List D} {Q : List V → Hp → Prop} (m : RM tb K H ms ex M) (s : Sl K H ms ex σ r) (e : f r M = some (d, M'))
    (q : ∀ H' v, Ext ms H H' → RM tb K H' ms ex M' → Sl K H' ms ex σ r → RVs K H' ms ex v d → Q v H') : aM tb K f σ H Q :=
  ⟨ms, ex, r, M, d, M', m, s, e, fun H' v x m' rv => q H' v x m' (s.ext m x) rv⟩
theorem bM.use {σ : L2.St} {r : En} {f : FB} {d : Bool} {Q : Bool → Hp → Prop} (m : RM tb K H ms ex M) (s : Sl K H ms ex σ r) (e : f r M = some (d, M'))
    (q : ∀ H', Ext ms H H' → RM tb K H' ms ex M' → Sl K H' ms ex σ r → Q d H') : bM tb K f σ H Q :=
  ⟨ms, ex, r, M, d, M', m, s, e, fun H' x m' => q H' x m' (s.ext m x)⟩

theorem m_of {i : Nat} {σ : L2.St} {Q : VK} (h : eM tb K (mVar i) σ H Q) : tVar i σ H Q := by
  obtain ⟨ms, ex, r, M, d, M', m, s, e, q⟩ := h
  unfold mVar at e
  split at e
  · rename_i d' hd
    cases e
    obtain ⟨v, h1, h2⟩ := s.at_ _ _ hd
    exact ⟨v, h1, q H v (Ext.refl H) m h2⟩
  · cases e
theorem me_var {i : Nat} {x : Str} (hN : X.N[i]? = some x := by rfl) (hv : Vis X.env.scope x := by first | exact Or.inl rfl | exact Or.inr (Or.inl rfl) | exact Or.inr (Or.inr rfl)) (hd : (x == ("__debug__" : Str)) = false := by decide)
    (hcd : (x == ("__classdict__" : Str)) = false := by decide) : PE X (.Name x pos) (eM tb X.K (mVar i)) :=
  (pe_var hN hv hd hcd).weak fun _ _ _ h => m_of h
theorem m_c {v : V} {d : D} {σ : L2.St} {Q : VK} (hv : ∀ H ms ex, RV K H ms ex v d) (h : eM tb K (mC d) σ H Q) : tC v σ H Q := by
  obtain ⟨ms, ex, r, M, d', M', m, s, e, q⟩ := h
  cases e
  exact q H v (Ext.refl H) m (hv _ _ _)
theorem me_int {i j} : PE X (.Constant (.int i) j pos) (eM tb X.K (mC (.int i))) := pe_int.weak fun _ _ _ h => m_c (fun _ _ _ => .int _) h
theorem me_bl {b j} : PE X (.Constant (.bool b) j pos) (eM tb X.K (mC (.bl b))) := pe_bl.weak fun _ _ _ h => m_c (fun _ _ _ => .bl _) h
theorem me_non {j} : PE X (.Constant .none j pos) (eM tb X.K (mC .non)) := pe_non.weak fun _ _ _ h => m_c (fun _ _ _ => .non) h
theorem me_str {x j} : PE X (.Constant (.str x) j pos) (eM tb X.K (mC (.str x))) := pe_str.weak fun _ _ _ h => m_c (fun _ _ _ => .str _) h
theorem me_globI {x : Str} {i : Int} {t : Tok} (hg : Gl X x) (hm : X.mg x = some (.int i t)) (hd : (x == ("__debug__" : Str)) = false := by decide) : PE X (.Name x pos) (eM tb X.K (mC (.int i))) :=
  (pe_glob hg hm (v := .int i) ⟨t, rfl⟩ hd).weak fun _ _ _ h => m_c (fun _ _ _ => .int _) h
theorem me_globR {x : Str} {q : Addr} {d : D} (hg : Gl X x) (hm : X.mg x = some (.ref q)) (hr : ∀ H ms ex, RV X.K H ms ex (.ref q) d) (hd : (x == ("__debug__" : Str)) = false := by decide) : PE X (.Name x pos) (eM tb X.K (mC d)) :=
  (pe_glob hg hm (v := .ref q) rfl hd).weak fun _ _ _ h => m_c hr h

theorem ma_nil : PA X [] (aM tb X.K mNil) := pa_nil.weak fun σ H Q h => by
  obtain ⟨ms, ex, r, M, d', M', m, s, e, q⟩ := h
  cases e
  exact q H [] (Ext.refl H) m .nil
theorem ma_cons (ha : PE X a (eM tb X.K f)) (hr : PA X es (aM tb X.K fa)) (hs : starEach (a :: es) X.env = (false, eval a X.env) :: starEach es X.env := by rfl) : PA X (a :: es) (aM tb X.K (mCons f fa)) :=
  (pa_cons ha hr hs).weak fun σ H Q h => by
    obtain ⟨ms, ex, r, M, d', M', m, s, e, q⟩ := h
    unfold mCons at e
    split at e
    · rename_i d M1 h1
      split at e
      · rename_i ds M2 h2
        cases e
        refine eM.use m s h1 fun H1 v1 x1 m1 s1 r1 => ?_
        refine aM.use m1 s1 h2 fun H2 v2 x2 m2 s2 r2 => ?_
        exact q H2 _ (x1.trans x2) m2 (.cons (r1.ext m1 x2) r2)
      · cases e
    · cases e
theorem RVs.small {v : List V} {ds : List D} (r : RVs K H ms ex v ds) (h : ds.length ≤ 1000) : v.length ≤ sizeLine := by
  rw [r.length]
  exact Nat.le_of_lt (small1000 h)
theorem me_tup {x1} (h : PA X es (aM tb X.K fa)) (hn : ∀ r M ds M', fa r M = some (ds, M') → ds.length ≤ 1000) : PE X (.Tuple es x1 pos) (eM tb X.K (mTup fa)) :=
  (pe_tup h).weak fun σ H Q h => by
    obtain ⟨ms, ex, r, M, d', M', m, s, e, q⟩ := h
    unfold mTup at e
    split at e
    · rename_i ds M1 h1
      cases e
      refine aM.use m s h1 fun H1 v1 x1 m1 s1 r1 => ⟨r1.small (hn _ _ _ _ h1), fun p hp => ?_⟩
      have sm := same_new (o := .tup v1) hp
      exact q _ _ (x1.trans (Ext.of sm)) (m1.same sm) (.tup upd_same (r1.ext m1 (Ext.of sm)))
    · cases e
theorem fresh_ms (m : RM tb K H ms ex M) {p : Addr} (hp : H p = none) : p ∉ ms ∧ p ∉ ex := by
  constructor
  · intro z
    rcases m.lst (.inl z) with ⟨xs, e⟩ | ⟨xs, e⟩ | ⟨xs, e⟩ <;> (rw [hp] at e; cases e)
  · intro z
    rcases m.lst (.inr z) with ⟨xs, e⟩ | ⟨xs, e⟩ | ⟨xs, e⟩ <;> (rw [hp] at e; cases e)
/-- a new list -/
theorem new_lst {p : Addr} {v1 : List V} {ds : List D} (m : RM tb K H ms ex M) (hp : H p = none) (r : RVs K H ms ex v1 ds) :
    Ext ms H (upd H p (.lst v1)) ∧ RM tb K (upd H p (.lst v1)) ms ex M ∧ RV K (upd H p (.lst v1)) ms ex (.ref p) (.lst ds) := by
  have sm := same_new (o := .lst v1) hp
  obtain ⟨n1, n2⟩ := fresh_ms m hp
  exact ⟨Ext.of sm, m.same sm, .lst upd_same n1 n2 (r.ext m (Ext.of sm))⟩
theorem new_tup {p : Addr} {v1 : List V} {ds : List D} (m : RM tb K H ms ex M) (hp : H p = none) (r : RVs K H ms ex v1 ds) :
    Ext ms H (upd H p (.tup v1)) ∧ RM tb K (upd H p (.tup v1)) ms ex M ∧ RV K (upd H p (.tup v1)) ms ex (.ref p) (.tup ds) := by
  have sm := same_new (o := .tup v1) hp
  exact ⟨Ext.of sm, m.same sm, .tup upd_same (r.ext m (Ext.of sm))⟩
theorem me_lst (h : PA X es (aM tb X.K fa)) (hn : ∀ r M ds M', fa r M = some (ds, M') → ds.length ≤ 1000) : PE X (.List es pos) (eM tb X.K (mLst fa)) :=
  (pe_lst h).weak fun σ H Q h => by
    obtain ⟨ms, ex, r, M, d', M', m, s, e, q⟩ := h
    unfold mLst at e
    split at e
    · rename_i ds M1 h1
      cases e
      refine aM.use m s h1 fun H1 v1 x1 m1 s1 r1 => ⟨r1.small (hn _ _ _ _ h1), fun p hp => ?_⟩
      obtain ⟨e1, m2, r2⟩ := new_lst m1 hp r1
      exact q _ _ (x1.trans e1) m2 r2
    · cases e
theorem ln_nil : ∀ r M ds M', mNil r M = some (ds, M') → ds.length ≤ 0 := by
  intro r M ds M' h
  cases h
  exact Nat.le_refl _
theorem ln_cons {n : Nat} (h : ∀ r M ds M', fa r M = some (ds, M') → ds.length ≤ n) : ∀ r M ds M', mCons f fa r M = some (ds, M') → ds.length ≤ n + 1 := by
  intro r M ds M' e
  unfold mCons at e
  split at e
  · split at e
    · rename_i h2
      cases e
      exact Nat.succ_le_succ (h _ _ _ _ h2)
    · cases e
  · cases e

/-! ### operators -/
theorem mt_op {r : R2} {o : MM → D → D → Option D} (hs : OpS tb X.K r o) (ha : PE X a (eM tb X.K f)) {σ : L2.St} {Q : VK} (h : eM tb X.K (mOp o f g) σ H Q) : tOp r (eM tb X.K f) (eM tb X.K g) σ H Q := by
  obtain ⟨ms, ex, r, M, d', M', m, s, e, q⟩ := h
  unfold mOp at e
  split at e
  · rename_i x M1 h1
    split at e
    · rename_i y M2 h2
      split at e
      · rename_i z h3
        cases e
        refine eM.use m s h1 fun H1 v1 x1 m1 s1 r1 => ?_
        refine eM.use m1 s1 h2 fun H2 v2 x2 m2 s2 r2 => ?_
        refine hs H2 ms ex _ v1 v2 x y _ Q m2 (r1.ext m1 x2) r2 h3 fun H3 v3 x3 m3 r3 => ?_
        exact q H3 v3 ((x1.trans x2).trans x3) m3 r3
      · cases e
    · cases e
  · cases e
theorem me_op {op : Operator} {r : R2} {o : MM → D → D → Option D} (ho : OpR X (binaryOp op) r) (hs : OpS tb X.K r o) (ha : PE X a (eM tb X.K f)) (hb : PE X b (eM tb X.K g)) : PE X (.BinOp a op b pos) (eM tb X.K (mOp o f g)) :=
  (pe_op ho ha hb).weak fun _ _ _ h => mt_op hs ha h
theorem me_cmp {op : CmpOp} {r : R2} {o : MM → D → D → Option D} (ho : OpR X (compareOp op) r) (hs : OpS tb X.K r o) (ha : PE X a (eM tb X.K f)) (hb : PE X b (eM tb X.K g)) (hm : behindInMarks op b = false) : PE X (.Compare a [op] [b] pos) (eM tb X.K (mOp o f g)) :=
  (pe_cmpR ho ha hb hm).weak fun _ _ _ h => mt_op hs ha h
theorem mt_b {σ : L2.St} {Q : Bool → Hp → Prop} (h : bM tb K (mB f) σ H Q) : eM tb K f σ H fun x H' => ∃ k, x = .bl k ∧ Q k H' := by
  obtain ⟨ms, ex, r, M, d', M', m, s, e, q⟩ := h
  unfold mB at e
  split at e
  · rename_i b M1 h1
    cases e
    refine eM.use m s h1 fun H1 v1 x1 m1 s1 r1 => ?_
    cases r1
    exact ⟨_, rfl, q H1 x1 m1⟩
  · cases e
theorem mp_cmp {op : CmpOp} {r : R2} {o : MM → D → D → Option D} (ho : OpR X (compareOp op) r) (hs : OpS tb X.K r o) (ha : PE X a (eM tb X.K f)) (hb : PE X b (eM tb X.K g)) (hm : behindInMarks op b = false) : PT X (.Compare a [op] [b] pos) (bM tb X.K (mB (mOp o f g))) :=
  (pt_cmpR ho ha hb hm).weak fun _ _ _ h => mt_op hs ha (mt_b h)
theorem me_un {op : UnaryOp} {r : V → Hp → VK → Prop} {o : D → Option D} (ho : UnR X (unaryOp op) r) (hs : UnS tb X.K r o) (ha : PE X a (eM tb X.K f)) : PE X (.UnaryOp op a pos) (eM tb X.K (mUn o f)) :=
  (pe_un ho ha).weak fun σ H Q h => by
    obtain ⟨ms, ex, r, M, d', M', m, s, e, q⟩ := h
    unfold mUn at e
    split at e
    · rename_i x M1 h1
      split at e
      · rename_i z h3
        cases e
        refine eM.use m s h1 fun H1 v1 x1 m1 s1 r1 => ?_
        exact hs H1 ms ex _ v1 x _ Q m1 r1 h3 fun H3 v3 x3 m3 r3 => q H3 v3 (x1.trans x3) m3 r3
      · cases e
    · cases e
theorem me_ix {r : R2} {o : MM → D → D → Option D} (hr : IxR X r) (hs : OpS tb X.K r o) (ha : PE X a (eM tb X.K f)) (hb : PE X b (eM tb X.K g)) (hp : PlainIx b) : PE X (.Subscript a b pos) (eM tb X.K (mOp o f g)) :=
  (pe_ix hr ha hb hp).weak fun _ _ _ h => mt_op hs ha h

/-! ### and, or, not, if -/
theorem me_and {rest : List Expr} (ha : PE X a (eM tb X.K f)) (hb : PE X (.BoolOp .And (b :: rest) pos) (eM tb X.K g)) : PE X (.BoolOp .And (a :: b :: rest) pos) (eM tb X.K (mAnd f g)) :=
  (pe_and ha hb).weak fun σ H Q h => by
    obtain ⟨ms, ex, r, M, d', M', m, s, e, q⟩ := h
    unfold mAnd at e
    split at e
    · rename_i M1 h1
      refine eM.use m s h1 fun H1 v1 x1 m1 s1 r1 => ?_
      cases r1
      exact ⟨true, rfl, iteT (eM.use m1 s1 e fun H2 v2 x2 m2 _ r2 => q H2 v2 (x1.trans x2) m2 r2)⟩
    · rename_i M1 h1
      cases e
      refine eM.use m s h1 fun H1 v1 x1 m1 s1 r1 => ?_
      cases r1
      exact ⟨false, rfl, iteF (q H1 _ x1 m1 (.bl false))⟩
    · cases e
theorem me_or {rest : List Expr} (ha : PE X a (eM tb X.K f)) (hb : PE X (.BoolOp .Or (b :: rest) pos) (eM tb X.K g)) : PE X (.BoolOp .Or (a :: b :: rest) pos) (eM tb X.K (mOr f g)) :=
  (pe_or ha hb).weak fun σ H Q h => by
    obtain ⟨ms, ex, r, M, d', M', m, s, e, q⟩ := h
    unfold mOr at e
    split at e
    · rename_i M1 h1
      cases e
      refine eM.use m s h1 fun H1 v1 x1 m1 s1 r1 => ?_
      cases r1
      exact ⟨true, rfl, iteT (q H1 _ x1 m1 (.bl true))⟩
    · rename_i M1 h1
      refine eM.use m s h1 fun H1 v1 x1 m1 s1 r1 => ?_
      cases r1
      exact ⟨false, rfl, iteF (eM.use m1 s1 e fun H2 v2 x2 m2 _ r2 => q H2 v2 (x1.trans x2) m2 r2)⟩
    · cases e
theorem me_one {op} (h : PE X a (eM tb X.K f)) : PE X (.BoolOp op [a] pos) (eM tb X.K f) := pe_one h
theorem me_not (ha : PE X a (eM tb X.K f)) : PE X (.UnaryOp .Not a pos) (eM tb X.K (mNot f)) :=
  (pe_not ha).weak fun σ H Q h => by
    obtain ⟨ms, ex, r, M, d', M', m, s, e, q⟩ := h
    unfold mNot at e
    split at e
    · rename_i b M1 h1
      cases e
      refine eM.use m s h1 fun H1 v1 x1 m1 s1 r1 => ?_
      cases r1
      exact ⟨_, rfl, q H1 _ x1 m1 (.bl _)⟩
    · cases e
/-- tests -/
theorem mp_val (h : PE X a (eM tb X.K f)) (he : ∀ whole, isTrue a X.env whole = (do let v ← whole; standAt a.pos; holding [v] (truthy v)) := by intro _; rfl) : PT X a (bM tb X.K (mB f)) :=
  (pt_val h he).weak fun _ _ _ h => mt_b h
theorem mw_and1 (ha : PT X a (bM tb X.K (mB f))) : PW X (.BoolOp .And [a] pos) (bM tb X.K (mB f)) := pw_and1 ha
theorem mw_or1 (ha : PT X a (bM tb X.K (mB f))) : PW X (.BoolOp .Or [a] pos) (bM tb X.K (mB f)) := pw_or1 ha
theorem mw_and {rest : List Expr} (ha : PT X a (bM tb X.K (mB f))) (hb : PW X (.BoolOp .And (b :: rest) pos) (bM tb X.K (mB g))) : PW X (.BoolOp .And (a :: b :: rest) pos) (bM tb X.K (mB (mAnd f g))) :=
  (pw_and ha hb).weak fun σ H Q h => by
    obtain ⟨ms, ex, r, M, d', M', m, s, e, q⟩ := h
    unfold mB mAnd at e
    split at e
    · rename_i b M1 h0
      cases e
      split at h0
      · rename_i M2 h1
        refine bM.use m s (by unfold mB; rw [h1]) fun H1 x1 m1 s1 => iteT ?_
        exact bM.use m1 s1 (by unfold mB; rw [h0]) fun H2 x2 m2 s2 => q H2 (x1.trans x2) m2
      · rename_i M2 h1
        cases h0
        refine bM.use m s (by unfold mB; rw [h1]) fun H1 x1 m1 s1 => iteF (q H1 x1 m1)
      · cases h0
    · cases e
theorem mw_or {rest : List Expr} (ha : PT X a (bM tb X.K (mB f))) (hb : PW X (.BoolOp .Or (b :: rest) pos) (bM tb X.K (mB g))) : PW X (.BoolOp .Or (a :: b :: rest) pos) (bM tb X.K (mB (mOr f g))) :=
  (pw_or ha hb).weak fun σ H Q h => by
    obtain ⟨ms, ex, r, M, d', M', m, s, e, q⟩ := h
    unfold mB mOr at e
    split at e
    · rename_i b M1 h0
      cases e
      split at h0
      · rename_i M2 h1
        cases h0
        refine bM.use m s (by unfold mB; rw [h1]) fun H1 x1 m1 s1 => iteT (q H1 x1 m1)
      · rename_i M2 h1
        refine bM.use m s (by unfold mB; rw [h1]) fun H1 x1 m1 s1 => iteF ?_
        exact bM.use m1 s1 (by unfold mB; rw [h0]) fun H2 x2 m2 s2 => q H2 (x1.trans x2) m2
      · cases h0
    · cases e
theorem mp_not (ha : PT X a (bM tb X.K (mB f))) : PT X (.UnaryOp .Not a pos) (bM tb X.K (mB (mNot f))) :=
  (pt_not ha).weak fun σ H Q h => by
    obtain ⟨ms, ex, r, M, d', M', m, s, e, q⟩ := h
    unfold mB mNot at e
    split at e
    · rename_i b M1 h0
      cases e
      split at h0
      · rename_i c M2 h1
        cases h0
        exact bM.use m s (by unfold mB; rw [h1]) fun H1 x1 m1 s1 => q H1 x1 m1
      · cases h0
    · cases e
theorem me_if (hc : PT X c (bM tb X.K (mB f))) (ha : PE X a (eM tb X.K g)) (hb : PE X b (eM tb X.K h)) : PE X (.IfExp c a b pos) (eM tb X.K (mIf f g h)) :=
  (pe_ifExp hc ha hb).weak fun σ H Q h => by
    obtain ⟨ms, ex, r, M, d', M', m, s, e, q⟩ := h
    unfold mIf at e
    split at e
    · rename_i M1 h1
      refine bM.use m s (by unfold mB; rw [h1]) fun H1 x1 m1 s1 => iteT ?_
      exact eM.use m1 s1 e fun H2 v2 x2 m2 _ r2 => q H2 v2 (x1.trans x2) m2 r2
    · rename_i M1 h1
      refine bM.use m s (by unfold mB; rw [h1]) fun H1 x1 m1 s1 => iteF ?_
      exact eM.use m1 s1 e fun H2 v2 x2 m2 _ r2 => q H2 v2 (x1.trans x2) m2 r2
    · cases e

/-! ### a chain -/
theorem mt_chain {r r' : R2} {o o' : MM → D → D → Option D} (hs : OpS tb K r o) (hs' : OpS tb K r' o') {σ : L2.St} {Q : VK} (hh : eM tb K (mChain o o' f g h) σ H Q) : tChain r r' (eM tb K f) (eM tb K g) (eM tb K h) σ H Q := by
  obtain ⟨ms, ex, r, M, d', M', m, s, e, q⟩ := hh
  unfold mChain at e
  split at e
  · rename_i x M1 h1
    split at e
    · rename_i y M2 h2
      refine eM.use m s h1 fun H1 v1 x1 m1 s1 r1 => ?_
      refine eM.use m1 s1 h2 fun H2 v2 x2 m2 s2 r2 => ?_
      split at e
      · rename_i h3
        refine hs H2 ms ex _ v1 v2 x y _ _ m2 (r1.ext m1 x2) r2 h3 fun H3 v3 x3 m3 r3 => ?_
        cases r3
        refine ⟨true, rfl, iteT ?_⟩
        split at e
        · rename_i z M3 h4
          split at e
          · rename_i b h5
            cases e
            refine eM.use m3 (s2.ext m2 x3) h4 fun H4 v4 x4 m4 s4 r4 => ?_
            refine hs' H4 ms ex _ v2 v4 y z _ Q m4 ((r2.ext m2 x3).ext m3 x4) r4 h5 fun H5 v5 x5 m5 r5 => ?_
            exact q H5 v5 ((((x1.trans x2).trans x3).trans x4).trans x5) m5 r5
          · cases e
        · cases e
      · rename_i h3
        cases e
        refine hs H2 ms ex _ v1 v2 x y _ _ m2 (r1.ext m1 x2) r2 h3 fun H3 v3 x3 m3 r3 => ?_
        cases r3
        exact ⟨false, rfl, iteF (q H3 _ ((x1.trans x2).trans x3) m3 (.bl false))⟩
      · cases e
    · cases e
  · cases e
theorem me_chain {op op' : CmpOp} {r r' : R2} {o o' : MM → D → D → Option D} (ho : OpR X (compareOp op) r) (ho' : OpR X (compareOp op') r') (hs : OpS tb X.K r o) (hs' : OpS tb X.K r' o') (ha : PE X a (eM tb X.K f)) (hb : PE X b (eM tb X.K g)) (hc : PE X c (eM tb X.K h))
    (hm : lastMarks [op, op'] [b, c] = false) : PE X (.Compare a [op, op'] [b, c] pos) (eM tb X.K (mChain o o' f g h)) :=
  (pe_chain ho ho' ha hb hc hm).weak fun _ _ _ h => mt_chain hs hs' h
theorem mp_chain {op op' : CmpOp} {r r' : R2} {o o' : MM → D → D → Option D} (ho : OpR X (compareOp op) r) (ho' : OpR X (compareOp op') r') (hs : OpS tb X.K r o) (hs' : OpS tb X.K r' o') (ha : PE X a (eM tb X.K f)) (hb : PE X b (eM tb X.K g)) (hc : PE X c (eM tb X.K h))
    (hm : lastMarks [op, op'] [b, c] = false) : PT X (.Compare a [op, op'] [b, c] pos) (bM tb X.K (mB (mChain o o' f g h))) :=
  (pt_chain ho ho' ha hb hc hm).weak fun _ _ _ h => mt_chain hs hs' (mt_b h)
end
end NL

/-! ML3: operators, built-in functions, calls. -/
namespace NL
open PySem PySem.Spec PyProof.Rows L2
variable {tb : List Addr} {K : PySem.W.Frag} {H H' H1 : Hp} {ms ms' ex ex' : List Addr} {M M' M1 : MM}

theorem OpS.or {r r' : R2} {o o' : MM → D → D → Option D} (h : OpS tb K r o) (h' : OpS tb K r' o') : OpS tb K (fun x y H Q => r x y H Q ∨ r' x y H Q) (fun M x y => match o M x y with | some z => some z | none => o' M x y) := by
  intro H ms ex M v u x y z Q m rv ru e q
  simp only at e
  split at e
  · rename_i z' h1
    cases e
    exact .inl (h H ms ex M v u x y _ Q m rv ru h1 q)
  · exact .inr (h' H ms ex M v u x y z Q m rv ru e q)

/-! ### + - * // % -/
def oAddI (_ : MM) : D → D → Option D
  | .int i, .int j => some (.int (i + j))
  | _, _ => none
def oAddT (_ : MM) : D → D → Option D
  | .tup xs, .tup ys => if xs.length + ys.length ≤ 1000 then some (.tup (xs ++ ys)) else none
  | _, _ => none
def oAddL (_ : MM) : D → D → Option D
  | .lst xs, .lst ys => if xs.length + ys.length ≤ 1000 then some (.lst (xs ++ ys)) else none
  | _, _ => none
def oAdd (M : MM) : D → D → Option D
  | .int i, .int j => some (.int (i + j))
  | .tup xs, .tup ys => if xs.length + ys.length ≤ 1000 then some (.tup (xs ++ ys)) else none
  | .lst xs, .lst ys => if xs.length + ys.length ≤ 1000 then some (.lst (xs ++ ys)) else none
  | _, _ => none
def rAddA (K : PySem.W.Frag) : R2 := fun x y H Q => (rI0 (fun i j => .int (i + j)) x y H Q ∨ rCatA K x y H Q) ∨ rCat x y H Q
theorem op_addA {X : Cx} : OpR X (binaryOp .Add) (rAddA X.K) := (op_add.or op_catA).or op_cat
theorem s_add : OpS tb K (rAddA K) oAdd := by
  intro H ms ex M v u x y z Q m rv ru e q
  unfold oAdd at e
  split at e
  · cases e
    cases rv
    cases ru
    exact .inl (.inl ⟨_, _, rfl, rfl, q H _ (Ext.refl H) m (.int _)⟩)
  · rename_i xs ys
    split at e
    · rename_i hl
      cases e
      cases rv with
      | tup s1 r1 =>
        cases ru with
        | tup s2 r2 =>
          rename_i a vs b us
          refine .inl (.inr ⟨_, _, _, _, rfl, rfl, SqT.of s1, SqT.of s2, ?_, fun e => ?_, fun e1 e2 => ?_, fun e1 e2 p hp => ?_⟩)
          · rw [r1.length, r2.length]
            exact Nat.le_of_lt (small1000 hl)
          · subst e
            cases r1
            exact q H _ (Ext.refl H) m (.tup s2 r2)
          · subst e2
            cases r2
            rw [List.append_nil] at q
            exact q H _ (Ext.refl H) m (.tup s1 r1)
          · obtain ⟨e3, m3, r3⟩ := new_tup m hp (r1.append r2)
            exact q _ _ e3 m3 r3
    · cases e
  · rename_i xs ys
    split at e
    · rename_i hl
      cases e
      cases rv with
      | lst s1 n1 n2 r1 =>
        cases ru with
        | lst s2 n3 n4 r2 =>
          refine .inr ⟨_, _, _, _, rfl, rfl, s1, s2, ?_, fun p hp => ?_⟩
          · rw [r1.length, r2.length]
            exact Nat.le_of_lt (small1000 hl)
          · obtain ⟨e3, m3, r3⟩ := new_lst m hp (r1.append r2)
            exact q _ _ e3 m3 r3
    · cases e
  · cases e
def oI (g : Int → Int → Option D) (_ : MM) : D → D → Option D
  | .int i, .int j => g i j
  | _, _ => none
def oSub := oI fun i j => some (.int (i - j))
theorem s_sub : OpS tb K (rI0 fun i j => .int (i - j)) oSub := by
  intro H ms ex M v u x y z Q m rv ru e q
  unfold oSub oI at e
  split at e
  · cases e
    cases rv
    cases ru
    exact ⟨_, _, rfl, rfl, q H _ (Ext.refl H) m (.int _)⟩
  · cases e
def oMul (_ : MM) : D → D → Option D
  | .int i, .int j => if i.natAbs < 18446744073709551616 ∨ j.natAbs < 18446744073709551616 then some (.int (i * j)) else none
  | .tup (x :: xs), .int k => if 2 ≤ k ∧ k ≤ 1000 ∧ xs.length < 1000 then some (.tup (List.replicate k.toNat (x :: xs)).flatten) else none
  | .lst xs, .int k => if 0 ≤ k ∧ k ≤ 1000 ∧ xs.length ≤ 1000 then some (.lst (List.replicate k.toNat xs).flatten) else none
  | _, _ => none
def rMulA (K : PySem.W.Frag) : R2 := fun x y H Q => (rI CMul (fun i j => .int (i * j)) x y H Q ∨ rRepT K x y H Q) ∨ rRep x y H Q
theorem op_mulA {X : Cx} : OpR X (binaryOp .Mult) (rMulA X.K) := (op_mul.or op_repT).or op_rep
theorem s_mul : OpS tb K (rMulA K) oMul := by
  intro H ms ex M v u x y z Q m rv ru e q
  unfold oMul at e
  split at e
  · split at e
    · rename_i hc
      cases e
      cases rv
      cases ru
      exact .inl (.inl ⟨_, _, rfl, rfl, (by unfold CMul; omega), q H _ (Ext.refl H) m (.int _)⟩)
    · cases e
  · split at e
    · rename_i hc
      cases e
      cases ru
      cases rv with
      | tup s1 r1 =>
        have hl := r1.length
        simp only [List.length_cons] at hl
        refine .inl (.inr ⟨_, _, _, rfl, rfl, SqT.of s1, fun z => ?_, hc.1, hc.2.1, by omega, fun p hp => ?_⟩)
        · rw [z] at hl
          simp at hl
        · obtain ⟨e3, m3, r3⟩ := new_tup m hp (r1.rep _)
          exact q _ _ e3 m3 r3
    · cases e
  · rename_i xs k
    split at e
    · rename_i hc
      cases e
      cases ru
      cases rv with
      | lst s1 n1 n2 r1 =>
        rename_i vs
        have hl := r1.length
        refine .inr ⟨_, _, _, rfl, rfl, s1, by omega, by omega, ?_, fun p hp => ?_⟩
        · have h1 : vs.length * k.toNat ≤ 1000 * 1000 := Nat.mul_le_mul (by omega) (by omega)
          exact Nat.le_trans h1 (by decide)
        · obtain ⟨e3, m3, r3⟩ := new_lst m hp (r1.rep _)
          exact q _ _ e3 m3 r3
    · cases e
  · cases e
def oMod := oI fun i j => if 0 < j then some (.int (i % j)) else none
theorem s_mod : OpS tb K (rI (fun _ j => 0 < j) fun i j => .int (i % j)) oMod := by
  intro H ms ex M v u x y z Q m rv ru e q
  unfold oMod oI at e
  split at e
  · dsimp only at e
    split at e
    · rename_i hc
      cases e
      cases rv
      cases ru
      exact ⟨_, _, rfl, rfl, hc, q H _ (Ext.refl H) m (.int _)⟩
    · cases e
  · cases e
def oDiv := oI fun i j => if 0 < j ∧ j < 1073741824 then some (.int (i / j)) else none
theorem s_div : OpS tb K (rI CDiv fun i j => .int (i / j)) oDiv := by
  intro H ms ex M v u x y z Q m rv ru e q
  unfold oDiv oI at e
  split at e
  · dsimp only at e
    split at e
    · rename_i hc
      cases e
      cases rv
      cases ru
      exact ⟨_, _, rfl, rfl, hc, q H _ (Ext.refl H) m (.int _)⟩
    · cases e
  · cases e
def oPow := oI fun i j => if 0 ≤ j ∧ j ≤ 1000000 ∧ i.natAbs < 2 ^ 64 then some (.int (i ^ j.toNat)) else none
theorem s_pow : OpS tb K (rI CPow fun i j => .int (i ^ j.toNat)) oPow := by
  intro H ms ex M v u x y z Q m rv ru e q
  unfold oPow oI at e
  split at e
  · dsimp only at e
    split at e
    · rename_i hc
      cases e
      cases rv
      cases ru
      exact ⟨_, _, rfl, rfl, hc, q H _ (Ext.refl H) m (.int _)⟩
    · cases e
  · cases e
def oNeg : D → Option D
  | .int i => some (.int (-i))
  | _ => none
theorem s_neg : UnS tb K (rU fun i => .int (-i)) oNeg := by
  intro H ms ex M v x z Q m rv e q
  unfold oNeg at e
  split at e
  · cases e
    cases rv
    exact ⟨_, rfl, q H _ (Ext.refl H) m (.int _)⟩
  · cases e

/-! ### order of ints -/
def oCmp (p : Int → Int → Bool) := oI fun i j => some (.bl (p i j))
theorem s_cmp {p : Int → Int → Bool} : OpS tb K (rI0 fun i j => .bl (p i j)) (oCmp p) := by
  intro H ms ex M v u x y z Q m rv ru e q
  unfold oCmp oI at e
  split at e
  · cases e
    cases rv
    cases ru
    exact ⟨_, _, rfl, rfl, q H _ (Ext.refl H) m (.bl _)⟩
  · cases e
def oLt := oCmp fun i j => decide (i < j)
def oLe := oCmp fun i j => decide (i ≤ j)
def oGt := oCmp fun i j => decide (j < i)
def oGe := oCmp fun i j => decide (j ≤ i)
theorem s_lt : OpS tb K (rI0 fun i j => .bl (decide (i < j))) oLt := s_cmp
theorem s_le : OpS tb K (rI0 fun i j => .bl (decide (i ≤ j))) oLe := s_cmp
theorem s_gt : OpS tb K (rI0 fun i j => .bl (decide (j < i))) oGt := s_cmp
theorem s_ge : OpS tb K (rI0 fun i j => .bl (decide (j ≤ i))) oGe := s_cmp

/-! ### == at any depth -/
mutual
def py : D → PyData
  | .non => .none
  | .bl b => .bool b
  | .int i => .int i
  | .str x => .str x
  | .tup xs => .tuple (pys xs)
  | .lst xs => .list (pys xs)
  | .fz xs => .list (pys xs)
  | .ct xs => .tuple (pys xs)
  | _ => .none
def pys : List D → List PyData
  | [] => []
  | d :: ds => py d :: pys ds
end
mutual
/-- no list in it that may change -/
def pure : D → Bool
  | .mu _ => false
  | .dk _ _ => false
  | .dt _ _ => false
  | .ins _ _ _ => false
  | .tup xs => pures xs
  | .lst xs => pures xs
  | .fz xs => pures xs
  | .ct xs => pures xs
  | _ => true
def pures : List D → Bool
  | [] => true
  | d :: ds => pure d && pures ds
end
mutual
theorem RV.dp : ∀ {v : V} {d : D}, RV K H ms ex v d → pure d = true → Dp K H v (py d)
  | _, _, .non, _ => .non
  | _, _, .bl b, _ => .bl b
  | _, _, .int i, _ => .int i
  | _, _, .str x, _ => .str x
  | _, _, .tup s r, h => .tup (SqT.of s) (RVs.dp r h)
  | _, _, .ct s r, h => .tup s (RVs.dp r h)
  | _, _, .lst s _ _ r, h => .lst (SqL.of s) (RVs.dp r h)
  | _, _, .fz s r, h => .lst s.sq (RVs.dp r h)
  | _, _, .mu _, h => by cases h
  | _, _, .dk _ _ _ _ _, h => by cases h
  | _, _, .dt _ _ _ _ _, h => by cases h
  | _, _, .ins _ _ _ _ _, h => by cases h
theorem RVs.dp : ∀ {v : List V} {d : List D}, RVs K H ms ex v d → pures d = true → DpAll K H v (pys d)
  | _, _, .nil, _ => .nil
  | _, _, .cons a b, h => .cons (RV.dp a (Bool.and_eq_true_iff.mp h).1) (RVs.dp b (Bool.and_eq_true_iff.mp h).2)
end
def okD (d : D) : Bool := pure d && SeqAt.shaped (py d)
def oEqv (d e : D) : Bool := PyData.eqv (py d) (py e)
def oEq (_ : MM) : D → D → Option D
  | .int i, .int j => some (.bl (i == j))
  | .str i, .str j => some (.bl (i == j))
  | .bl i, .bl j => some (.bl (i == j))
  | x, y => if okD x && okD y then some (.bl (oEqv x y)) else none
def oNe (M : MM) (x y : D) : Option D := match oEq M x y with
  | some (.bl b) => some (.bl (!b))
  | _ => none
def rEqA (K : PySem.W.Frag) : R2 := fun x y H Q => rEq x y H Q ∨ rEqD K x y H Q
def rNeA (K : PySem.W.Frag) : R2 := fun x y H Q => rNe x y H Q ∨ rNeD K x y H Q
theorem op_eqA {X : Cx} (hu : X.A.units + 64 < cLine) : OpR X (compareOp .Eq) (rEqA X.K) := op_eq.or (op_eqD hu)
theorem op_neA {X : Cx} (hu : X.A.units + 64 < cLine) : OpR X (compareOp .NotEq) (rNeA X.K) := op_ne.or (op_neD hu)
theorem oEq_cases {v u : V} {x y z : D} (m : RM tb K H ms ex M) (rv : RV K H ms ex v x) (ru : RV K H ms ex u y) (e : oEq M x y = some z) :
    ∃ b, z = .bl b ∧ ((scal v u = true ∧ decide (v = u) = b) ∨ ∃ d e', Dp K H v d ∧ Dp K H u e' ∧ SeqAt.shaped d = true ∧ SeqAt.shaped e' = true ∧ PyData.eqv d e' = b) := by
  unfold oEq at e
  split at e
  · cases e
    cases rv
    cases ru
    exact ⟨_, rfl, .inl ⟨rfl, dec_int⟩⟩
  · cases e
    cases rv
    cases ru
    exact ⟨_, rfl, .inl ⟨rfl, dec_str⟩⟩
  · cases e
    cases rv
    cases ru
    exact ⟨_, rfl, .inl ⟨rfl, dec_bl⟩⟩
  · split at e
    · rename_i h
      cases e
      obtain ⟨h1, h2⟩ := Bool.and_eq_true_iff.mp h
      obtain ⟨a1, a2⟩ := Bool.and_eq_true_iff.mp h1
      obtain ⟨b1, b2⟩ := Bool.and_eq_true_iff.mp h2
      exact ⟨_, rfl, .inr ⟨_, _, rv.dp a1, ru.dp b1, a2, b2, rfl⟩⟩
    · cases e
theorem s_eq : OpS tb K (rEqA K) oEq := by
  intro H ms ex M v u x y z Q m rv ru e q
  obtain ⟨b, rfl, h⟩ := oEq_cases m rv ru e
  have q' := q H (.bl b) (Ext.refl H) m (.bl b)
  rcases h with ⟨h1, h2⟩ | ⟨d, e', h1, h2, h3, h4, h5⟩
  · exact .inl ⟨h1, by rw [h2]; exact q'⟩
  · exact .inr ⟨d, e', h1, h2, h3, h4, by rw [h5]; exact q'⟩
theorem s_ne : OpS tb K (rNeA K) oNe := by
  intro H ms ex M v u x y z Q m rv ru e q
  unfold oNe at e
  split at e
  · rename_i b e0
    cases e
    obtain ⟨b', hb, h⟩ := oEq_cases m rv ru e0
    cases hb
    have q' := q H (.bl (!b)) (Ext.refl H) m (.bl _)
    rcases h with ⟨h1, h2⟩ | ⟨d, e', h1, h2, h3, h4, h5⟩
    · exact .inl ⟨h1, by rw [h2]; exact q'⟩
    · exact .inr ⟨d, e', h1, h2, h3, h4, by rw [h5]; exact q'⟩
  · cases e

/-! ### in -/
theorem plain_sh {d : PyData} (h : SeqAt.shaped d = true) : d.plain = true := PyData.plain_of_canLay0 d (SeqAt.canLay_of_shaped h)
def rInT (K : PySem.W.Frag) : R2 := fun x y H Q => ∃ d ds, Dp K H x d ∧ Dp K H y (.tuple ds) ∧ SeqAt.shaped d = true ∧ SeqAt.shaped (.tuple ds) = true ∧ Q (.bl (ds.any fun z => PyData.eqv z d)) H
def rNotInT (K : PySem.W.Frag) : R2 := fun x y H Q => ∃ d ds, Dp K H x d ∧ Dp K H y (.tuple ds) ∧ SeqAt.shaped d = true ∧ SeqAt.shaped (.tuple ds) = true ∧ Q (.bl (!ds.any fun z => PyData.eqv z d)) H
theorem op_inT {X : Cx} (hu : X.A.units + 65 < cLine) : OpR X (compareOp .In) (rInT X.K) := by
  intro pins s σ H x y v u Q I rx ry h
  obtain ⟨d, ds, hd, he, sd, se, q⟩ := h
  obtain ⟨as, r1⟩ := Dp.reads I d x v hd rx
  obtain ⟨bs, r2⟩ := Dp.reads I (.tuple ds) y u he ry
  exact SeqAt.in_tuple_data r2 r1 (PyData.plainAll_of_canLay0 ds (SeqAt.canLay_of_shaped se)) (plain_sh sd) (room_in_shaped sd hu) ⟨.bl _, H, I, rfl, q⟩
theorem op_notInT {X : Cx} (hu : X.A.units + 65 < cLine) : OpR X (compareOp .NotIn) (rNotInT X.K) := by
  intro pins s σ H x y v u Q I rx ry h
  obtain ⟨d, ds, hd, he, sd, se, q⟩ := h
  obtain ⟨as, r1⟩ := Dp.reads I d x v hd rx
  obtain ⟨bs, r2⟩ := Dp.reads I (.tuple ds) y u he ry
  exact SeqAt.notIn_tuple_data r2 r1 (PyData.plainAll_of_canLay0 ds (SeqAt.canLay_of_shaped se)) (plain_sh sd) (room_in_shaped sd hu) ⟨.bl _, H, I, rfl, q⟩
def anyEq (d : D) : List D → Bool
  | [] => false
  | z :: zs => oEqv z d || anyEq d zs
theorem anyEq_eq (d : D) : ∀ ds : List D, ((pys ds).any fun z => PyData.eqv z (py d)) = anyEq d ds
  | [] => rfl
  | z :: zs => by
    show (PyData.eqv (py z) (py d) || (pys zs).any fun z => PyData.eqv z (py d)) = (oEqv z d || anyEq d zs)
    rw [anyEq_eq d zs]
    rfl
def oIn (_ : MM) (x : D) : D → Option D
  | .tup ys => if okD x && okD (.tup ys) then some (.bl (anyEq x ys)) else none
  | .ct ys => if okD x && okD (.ct ys) then some (.bl (anyEq x ys)) else none
  | .lst ys => if okD x && okD (.lst ys) then some (.bl (anyEq x ys)) else none
  | _ => none
def oNotIn (M : MM) (x y : D) : Option D := match oIn M x y with
  | some (.bl b) => some (.bl (!b))
  | _ => none
def rInA (K : PySem.W.Frag) : R2 := fun x y H Q => rInT K x y H Q ∨ rInD K x y H Q
def rNotInA (K : PySem.W.Frag) : R2 := fun x y H Q => rNotInT K x y H Q ∨ rNotInD K x y H Q
theorem op_inA {X : Cx} (hu : X.A.units + 65 < cLine) : OpR X (compareOp .In) (rInA X.K) := (op_inT hu).or (op_inD hu)
theorem op_notInA {X : Cx} (hu : X.A.units + 65 < cLine) : OpR X (compareOp .NotIn) (rNotInA X.K) := (op_notInT hu).or (op_notInD hu)
theorem s_in : OpS tb K (rInA K) oIn := by
  intro H ms ex M v u x y z Q m rv ru e q
  unfold oIn at e
  split at e <;> try split at e
  · rename_i ys h
    cases e
    obtain ⟨h1, h2⟩ := Bool.and_eq_true_iff.mp h
    obtain ⟨a1, a2⟩ := Bool.and_eq_true_iff.mp h1
    obtain ⟨b1, b2⟩ := Bool.and_eq_true_iff.mp h2
    exact .inl ⟨_, _, rv.dp a1, ru.dp b1, a2, b2, by rw [anyEq_eq]; exact q H _ (Ext.refl H) m (.bl _)⟩
  · cases e
  · rename_i ys h
    cases e
    obtain ⟨h1, h2⟩ := Bool.and_eq_true_iff.mp h
    obtain ⟨a1, a2⟩ := Bool.and_eq_true_iff.mp h1
    obtain ⟨b1, b2⟩ := Bool.and_eq_true_iff.mp h2
    exact .inl ⟨_, _, rv.dp a1, ru.dp b1, a2, b2, by rw [anyEq_eq]; exact q H _ (Ext.refl H) m (.bl _)⟩
  · cases e
  · rename_i ys h
    cases e
    obtain ⟨h1, h2⟩ := Bool.and_eq_true_iff.mp h
    obtain ⟨a1, a2⟩ := Bool.and_eq_true_iff.mp h1
    obtain ⟨b1, b2⟩ := Bool.and_eq_true_iff.mp h2
    exact .inr ⟨_, _, rv.dp a1, ru.dp b1, a2, b2, by rw [anyEq_eq]; exact q H _ (Ext.refl H) m (.bl _)⟩
  · cases e
  · cases e
theorem s_notIn : OpS tb K (rNotInA K) oNotIn := by
  intro H ms ex M v u x y z Q m rv ru e q
  unfold oNotIn oIn at e
  split at e
  · rename_i b e0
    cases e
    split at e0 <;> try split at e0
    · rename_i ys h
      cases e0
      obtain ⟨h1, h2⟩ := Bool.and_eq_true_iff.mp h
      obtain ⟨a1, a2⟩ := Bool.and_eq_true_iff.mp h1
      obtain ⟨b1, b2⟩ := Bool.and_eq_true_iff.mp h2
      exact .inl ⟨_, _, rv.dp a1, ru.dp b1, a2, b2, by rw [anyEq_eq]; exact q H _ (Ext.refl H) m (.bl _)⟩
    · cases e0
    · rename_i ys h
      cases e0
      obtain ⟨h1, h2⟩ := Bool.and_eq_true_iff.mp h
      obtain ⟨a1, a2⟩ := Bool.and_eq_true_iff.mp h1
      obtain ⟨b1, b2⟩ := Bool.and_eq_true_iff.mp h2
      exact .inl ⟨_, _, rv.dp a1, ru.dp b1, a2, b2, by rw [anyEq_eq]; exact q H _ (Ext.refl H) m (.bl _)⟩
    · cases e0
    · rename_i ys h
      cases e0
      obtain ⟨h1, h2⟩ := Bool.and_eq_true_iff.mp h
      obtain ⟨a1, a2⟩ := Bool.and_eq_true_iff.mp h1
      obtain ⟨b1, b2⟩ := Bool.and_eq_true_iff.mp h2
      exact .inr ⟨_, _, rv.dp a1, ru.dp b1, a2, b2, by rw [anyEq_eq]; exact q H _ (Ext.refl H) m (.bl _)⟩
    · cases e0
    · cases e0
  · cases e

/-! ### is -/
def isNon : D → Bool
  | .non => true
  | _ => false
theorem RV.isNon {v : V} {d : D} (h : RV K H ms ex v d) : decide (v = .non) = isNon d := by cases h <;> rfl
def oIs (_ : MM) : D → D → Option D
  | x, .non => some (.bl (isNon x))
  | .bl a, .bl b => some (.bl (a == b))
  | _, _ => none
def oIsNot (M : MM) (x y : D) : Option D := match oIs M x y with
  | some (.bl b) => some (.bl (!b))
  | _ => none
def rIsA : R2 := fun x y H Q => (y = .non ∧ Q (.bl (decide (x = .non))) H) ∨ rIsB x y H Q
def rIsNotA : R2 := fun x y H Q => (y = .non ∧ Q (.bl (!decide (x = .non))) H) ∨ rNotB x y H Q
theorem op_isA {X : Cx} : OpR X (compareOp .Is) rIsA := op_isN.or op_isBl
theorem op_isNotA {X : Cx} : OpR X (compareOp .IsNot) rIsNotA := op_notN.or op_notBl
theorem s_is : OpS tb K rIsA oIs := by
  intro H ms ex M v u x y z Q m rv ru e q
  unfold oIs at e
  split at e
  · cases e
    cases ru
    exact .inl ⟨rfl, by rw [rv.isNon]; exact q H _ (Ext.refl H) m (.bl _)⟩
  · cases e
    cases ru
    cases rv
    exact .inr ⟨_, _, rfl, rfl, by rw [Bool.beq_eq_decide_eq] at q; exact q H _ (Ext.refl H) m (.bl _)⟩
  · cases e
theorem s_isNot : OpS tb K rIsNotA oIsNot := by
  intro H ms ex M v u x y z Q m rv ru e q
  unfold oIsNot at e
  split at e
  · rename_i b e0
    cases e
    unfold oIs at e0
    split at e0
    · cases e0
      cases ru
      exact .inl ⟨rfl, by rw [rv.isNon]; exact q H _ (Ext.refl H) m (.bl _)⟩
    · cases e0
      cases ru
      cases rv
      exact .inr ⟨_, _, rfl, rfl, by rw [Bool.beq_eq_decide_eq] at q; exact q H _ (Ext.refl H) m (.bl _)⟩
    · cases e0
  · cases e

/-! ### items, slices -/
def oIx (M : MM) : D → D → Option D
  | .tup xs, .int i => atI xs i
  | .ct xs, .int i => atI xs i
  | .lst xs, .int i => atI xs i
  | .mu n, .int i => match M[n]? with
    | some (.lst xs) => atI xs i
    | _ => none
  | _, _ => none
theorem RVs.atI {vs : List V} {ds : List D} {i : Int} {d : D} (r : RVs K H ms ex vs ds) (e : L2.atI ds i = some d) : ∃ v, L2.atI vs i = some v ∧ RV K H ms ex v d := by
  unfold L2.atI at e ⊢
  rw [r.length]
  cases h : ixN ds.length i with
  | none => rw [h] at e; cases e
  | some j =>
    rw [h] at e
    exact r.get e
def rIxA (K : PySem.W.Frag) : R2 := fun x y H Q => rIxL K x y H Q ∨ rIxT K x y H Q
theorem ix_A {X : Cx} : IxR X (rIxA X.K) := ix_list.or ix_tup
theorem s_ix : OpS tb K (rIxA K) oIx := by
  intro H ms ex M v u x y z Q m rv ru e q
  unfold oIx at e
  split at e
  · cases ru
    cases rv with
    | tup s r =>
      obtain ⟨w, h1, h2⟩ := r.atI e
      exact .inr ⟨_, _, _, _, rfl, rfl, SqT.of s, h1, q H _ (Ext.refl H) m h2⟩
  · cases ru
    cases rv with
    | ct s r =>
      obtain ⟨w, h1, h2⟩ := r.atI e
      exact .inr ⟨_, _, _, _, rfl, rfl, s, h1, q H _ (Ext.refl H) m h2⟩
  · cases ru
    cases rv with
    | lst s n1 n2 r =>
      obtain ⟨w, h1, h2⟩ := r.atI e
      exact .inl ⟨_, _, _, _, rfl, rfl, SqL.of s, h1, q H _ (Ext.refl H) m h2⟩
  · rename_i n i
    cases ru
    cases rv with
    | mu e1 =>
      split at e
      · rename_i xs h
        cases m.at_ _ _ _ e1 h with
        | lst s r =>
          obtain ⟨w, h1, h2⟩ := r.atI e
          exact .inl ⟨_, _, _, _, rfl, rfl, SqL.of s, h1, q H _ (Ext.refl H) m h2⟩
      · cases e
  · cases e

abbrev FO := En → MM → Option (Option Int × MM)
def oM (tb : List Addr) (K : PySem.W.Frag) (f : FO) : TO := fun σ H Q => ∃ ms ex r M d M', RM tb K H ms ex M ∧ Sl K H ms ex σ r ∧ f r M = some (d, M') ∧ ∀ H', Ext ms H H' → RM tb K H' ms ex M' → Q d H'
def mNo : FO := fun _ M => some (none, M)
def mPart (f : FE) : FO := fun r M => match f r M with
  | some (.int i, M1) => some (some i, M1)
  | _ => none
def cutD (xs : List D) (lo hi : Option Int) : List D := (xs.drop (HT.sIx xs.length 0 lo)).take (HT.sIx xs.length xs.length hi - HT.sIx xs.length 0 lo)
theorem RVs.cut {vs : List V} {ds : List D} (r : RVs K H ms ex vs ds) (lo hi : Option Int) : RVs K H ms ex (cutV vs lo hi) (cutD ds lo hi) := by
  unfold cutV cutD
  rw [r.length]
  exact (r.drop _).take _
def oSl (M : MM) (x : D) (lo hi : Option Int) : Option D := match x with
  | .tup xs => some (.tup (cutD xs lo hi))
  | .lst xs => some (.lst (cutD xs lo hi))
  | _ => none
def mSl (f : FE) (g h : FO) : FE := fun r M => match f r M with
  | some (x, M1) => match g r M1 with
    | some (lo, M2) => match h r M2 with
      | some (hi, M3) => match oSl M3 x lo hi with
        | some z => some (z, M3)
        | none => none
      | none => none
    | none => none
  | none => none
section
variable {X : Cx} {pos p2 : Pos} {a b c : Expr} {lo hi : Option Expr} {es : List Expr} {f g h : FE} {fa : FA} {fl fh : FO}
theorem oM.use {σ : L2.St} {r : En} {f : FO} {d : Option Int} {Q : Option Int → Hp → Prop} (m : RM tb K H ms ex M) (s : Sl K H ms ex σ r) (e : f r M = some (d, M'))
    (q : ∀ H', Ext ms H H' → RM tb K H' ms ex M' → Sl K H' ms ex σ r → Q d H') : oM tb K f σ H Q :=
  ⟨ms, ex, r, M, d, M', m, s, e, fun H' x m' => q H' x m' (s.ext m x)⟩
theorem _root_.L2.PO.weak {e : Option Expr} {t t' : TO} (h : PO X e t) (k : ∀ σ H Q, t' σ H Q → t σ H Q) : PO X e t' := ⟨fun pins s σ H Q I q => h.run pins s σ H Q I (k σ H Q q)⟩
theorem mo_no : PO X none (oM tb X.K mNo) := po_none.weak fun σ H Q h => by
  obtain ⟨ms, ex, r, M, d', M', m, s, e, q⟩ := h
  cases e
  exact q H (Ext.refl H) m
theorem mo_some (h : PE X a (eM tb X.K f)) : PO X (some a) (oM tb X.K (mPart f)) := (po_some h).weak fun σ H Q h => by
  obtain ⟨ms, ex, r, M, d', M', m, s, e, q⟩ := h
  unfold mPart at e
  split at e
  · rename_i h1
    cases e
    refine eM.use m s h1 fun H1 v1 x1 m1 s1 r1 => ?_
    cases r1
    exact ⟨_, rfl, q H1 x1 m1⟩
  · cases e
def rSlB (K : PySem.W.Frag) : V → Option Int → Option Int → Hp → VK → Prop := fun x lo hi H Q => rSlA K x lo hi H Q ∨ rSlL K x lo hi H Q
theorem sl_B : SlR X (rSlB X.K) := sl_tupA.or sl_list
theorem cut_whole {xs : List V} {lo hi : Option Int} (h : HT.sIx xs.length 0 lo = 0 ∧ HT.sIx xs.length xs.length hi = xs.length) : cutV xs lo hi = xs := by
  unfold cutV
  rw [h.1, h.2]
  simp
theorem me_sl (he : PE X a (eM tb X.K f)) (hl : PO X lo (oM tb X.K fl)) (hu : PO X hi (oM tb X.K fh)) : PE X (.Subscript a (.Slice lo hi none p2) pos) (eM tb X.K (mSl f fl fh)) :=
  (pe_slice sl_B he hl hu).weak fun σ H Q h => by
    obtain ⟨ms, ex, r, M, d', M', m, s, e, q⟩ := h
    unfold mSl at e
    split at e
    · rename_i x M1 h1
      split at e
      · rename_i l M2 h2
        split at e
        · rename_i u M3 h3
          split at e
          · rename_i z h4
            cases e
            refine eM.use m s h1 fun H1 v1 x1 m1 s1 r1 => ?_
            refine oM.use m1 s1 h2 fun H2 x2 m2 s2 => ?_
            refine oM.use m2 s2 h3 fun H3 x3 m3 s3 => ?_
            have r3 := (r1.ext m1 x2).ext m2 x3
            have x13 := (x1.trans x2).trans x3
            unfold oSl at h4
            split at h4
            · cases h4
              cases r3 with
              | tup sq rr =>
                rename_i vs
                refine .inl ⟨_, _, rfl, SqT.of sq, fun w => ?_, fun w p hp => ?_⟩
                · refine q H3 _ x13 m3 (.tup sq ?_)
                  have := rr.cut l u
                  rw [cut_whole w] at this
                  exact this
                · obtain ⟨e3, m4, r4⟩ := new_tup m3 hp (rr.cut l u)
                  exact q _ _ (x13.trans e3) m4 r4
            · cases h4
              cases r3 with
              | lst sq n1 n2 rr =>
                refine .inr ⟨_, _, rfl, SqL.of sq, fun p hp => ?_⟩
                obtain ⟨e3, m4, r4⟩ := new_lst m3 hp (rr.cut l u)
                exact q _ _ (x13.trans e3) m4 r4
            · cases h4
          · cases e
        · cases e
      · cases e
    · cases e

/-! ### built-in functions -/
theorem mt_fn {r : List V → Hp → VK → Prop} {o : MM → List D → Option D} (hs : CallS tb K r o) {σ : L2.St} {Q : VK} (h : eM tb K (mFn o fa) σ H Q) : tCB r (aM tb K fa) σ H Q := by
  obtain ⟨ms, ex, r, M, d', M', m, s, e, q⟩ := h
  unfold mFn at e
  split at e
  · rename_i ds M1 h1
    split at e
    · rename_i z h2
      cases e
      refine aM.use m s h1 fun H1 v1 x1 m1 s1 r1 => ?_
      exact hs H1 ms ex _ v1 ds _ Q m1 r1 h2 fun H2 v2 x2 m2 r2 => q H2 v2 (x1.trans x2) m2 r2
    · cases e
  · cases e
theorem me_fn {x : Str} {p : Pos} {id : String} {r : List V → Hp → VK → Prop} {o : MM → List D → Option D} (hc : CallR X (.builtin id) r) (hs : CallS tb X.K r o) (hg : Gl X x) (hm : X.mg x = none) (hv : bootBuiltins x = some (.builtin id)) (ha : PA X (a :: es) (aM tb X.K fa))
    (hn : x ≠ "__name__" := by decide) (hdb : (x == ("__debug__" : Str)) = false := by decide)
    (he : starEach (a :: es) X.env = (false, eval a X.env) :: starEach es X.env := by rfl) (hpl : (backTo pos (starEach es X.env)).any (·.1) = false := by rfl) : PE X (.Call (.Name x p) (a :: es) [] pos) (eM tb X.K (mFn o fa)) :=
  (pe_callB hc hg hm hv ha hn hdb he hpl).weak fun _ _ _ h => mt_fn hs h
theorem me_ty {x : Str} {p : Pos} {T : String} {r : List V → Hp → VK → Prop} {o : MM → List D → Option D} (hc : CallR X (.type T) r) (hs : CallS tb X.K r o) (hg : Gl X x) (hm : X.mg x = none) (hv : bootBuiltins x = some (.type T)) (ha : PA X (a :: es) (aM tb X.K fa))
    (hn : x ≠ "__name__" := by decide) (hdb : (x == ("__debug__" : Str)) = false := by decide)
    (he : starEach (a :: es) X.env = (false, eval a X.env) :: starEach es X.env := by rfl) (hpl : (backTo pos (starEach es X.env)).any (·.1) = false := by rfl) : PE X (.Call (.Name x p) (a :: es) [] pos) (eM tb X.K (mFn o fa)) :=
  (pe_callTy hc hg hm hv ha hn hdb he hpl).weak fun _ _ _ h => mt_fn hs h
def oLen (M : MM) : List D → Option D
  | [.tup xs] => some (.int xs.length)
  | [.ct xs] => some (.int xs.length)
  | [.lst xs] => some (.int xs.length)
  | [.mu n] => match M[n]? with
    | some (.lst xs) => some (.int xs.length)
    | _ => none
  | _ => none
theorem s_len : CallS tb K (fun xs H Q => ∃ p ys, xs = [.ref p] ∧ (SqL K H p ys ∨ SqT K H p ys) ∧ Q (.int ys.length) H) oLen := by
  intro H ms ex M v x z Q m rv e q
  unfold oLen at e
  split at e
  · cases e
    cases rv with
    | cons a b =>
      cases b
      cases a with
      | tup s r => exact ⟨_, _, rfl, .inr (SqT.of s), by rw [r.length]; exact q H _ (Ext.refl H) m (.int _)⟩
  · cases e
    cases rv with
    | cons a b =>
      cases b
      cases a with
      | ct s r => exact ⟨_, _, rfl, .inr s, by rw [r.length]; exact q H _ (Ext.refl H) m (.int _)⟩
  · cases e
    cases rv with
    | cons a b =>
      cases b
      cases a with
      | lst s n1 n2 r => exact ⟨_, _, rfl, .inl (SqL.of s), by rw [r.length]; exact q H _ (Ext.refl H) m (.int _)⟩
  · split at e
    · rename_i h
      cases e
      cases rv with
      | cons a b =>
        cases b
        cases a with
        | mu e1 =>
          cases m.at_ _ _ _ e1 h with
          | lst s r => exact ⟨_, _, rfl, .inl (SqL.of s), by rw [r.length]; exact q H _ (Ext.refl H) m (.int _)⟩
    · cases e
  · cases e
def oTuple (M : MM) : List D → Option D
  | [.tup xs] => some (.tup xs)
  | [.lst xs] => some (.tup xs)
  | [.mu n] => match M[n]? with
    | some (.lst xs) => some (.tup xs)
    | _ => none
  | _ => none
theorem s_tuple : CallS tb K (fun xs H Q => ∃ p ys, xs = [.ref p] ∧ ((SqL K H p ys ∧ ∀ l, H l = none → Q (.ref l) (upd H l (.tup ys))) ∨ (SqT K H p ys ∧ Q (.ref p) H))) oTuple := by
  intro H ms ex M v x z Q m rv e q
  unfold oTuple at e
  split at e
  · cases e
    cases rv with
    | cons a b =>
      cases b
      cases a with
      | tup s r => exact ⟨_, _, rfl, .inr ⟨SqT.of s, q H _ (Ext.refl H) m (.tup s r)⟩⟩
  · cases e
    cases rv with
    | cons a b =>
      cases b
      cases a with
      | lst s n1 n2 r =>
        refine ⟨_, _, rfl, .inl ⟨SqL.of s, fun p hp => ?_⟩⟩
        obtain ⟨e3, m4, r4⟩ := new_tup m hp r
        exact q _ _ e3 m4 r4
  · rename_i n
    split at e
    · rename_i xs h1
      cases e
      cases rv with
      | cons a b =>
        cases b
        cases a with
        | mu e0 =>
          cases m.at_ _ _ _ e0 h1 with
          | lst s r =>
            refine ⟨_, _, rfl, .inl ⟨SqL.of s, fun p hp => ?_⟩⟩
            obtain ⟨e3, m4, r4⟩ := new_tup m hp r
            exact q _ _ e3 m4 r4
    · cases e
  · cases e
def oList (M : MM) : List D → Option D
  | [.tup xs] => some (.lst xs)
  | [.lst xs] => some (.lst xs)
  | [.fz xs] => some (.lst xs)
  | _ => none
theorem s_list : CallS tb K (fun xs H Q => ∃ p ys, xs = [.ref p] ∧ (SqL K H p ys ∨ SqT K H p ys) ∧ ∀ l, H l = none → Q (.ref l) (upd H l (.lst ys))) oList := by
  intro H ms ex M v x z Q m rv e q
  unfold oList at e
  split at e
  · cases e
    cases rv with
    | cons a b =>
      cases b
      cases a with
      | tup s r =>
        refine ⟨_, _, rfl, .inr (SqT.of s), fun p hp => ?_⟩
        obtain ⟨e3, m4, r4⟩ := new_lst m hp r
        exact q _ _ e3 m4 r4
  · cases e
    cases rv with
    | cons a b =>
      cases b
      cases a with
      | lst s n1 n2 r =>
        refine ⟨_, _, rfl, .inl (SqL.of s), fun p hp => ?_⟩
        obtain ⟨e3, m4, r4⟩ := new_lst m hp r
        exact q _ _ e3 m4 r4
  · cases e
    cases rv with
    | cons a b =>
      cases b
      cases a with
      | fz s r =>
        refine ⟨_, _, rfl, .inl s.sq, fun p hp => ?_⟩
        obtain ⟨e3, m4, r4⟩ := new_lst m hp r
        exact q _ _ e3 m4 r4
  · cases e
def boolsOf : List D → Option (List Bool)
  | [] => some []
  | .bl b :: ds => match boolsOf ds with
    | some bs => some (b :: bs)
    | none => none
  | _ => none
theorem boolsOf_eq : ∀ {ds : List D} {bs : List Bool}, boolsOf ds = some bs → ds = bs.map D.bl
  | [], bs, h => by cases h; rfl
  | .bl b :: ds, bs, h => by
    unfold boolsOf at h
    split at h
    · rename_i bs' h1
      cases h
      rw [boolsOf_eq h1]
      rfl
    · cases h
  | .non :: _, _, h => by cases h
  | .int _ :: _, _, h => by cases h
  | .str _ :: _, _, h => by cases h
  | .tup _ :: _, _, h => by cases h
  | .lst _ :: _, _, h => by cases h
  | .mu _ :: _, _, h => by cases h
  | .fz _ :: _, _, h => by cases h
def intsOf : List D → Option (List Int)
  | [] => some []
  | .int b :: ds => match intsOf ds with
    | some bs => some (b :: bs)
    | none => none
  | _ => none
theorem intsOf_eq : ∀ {ds : List D} {bs : List Int}, intsOf ds = some bs → ds = bs.map D.int
  | [], bs, h => by cases h; rfl
  | .int b :: ds, bs, h => by
    unfold intsOf at h
    split at h
    · rename_i bs' h1
      cases h
      rw [intsOf_eq h1]
      rfl
    · cases h
  | .non :: _, _, h => by cases h
  | .bl _ :: _, _, h => by cases h
  | .str _ :: _, _, h => by cases h
  | .tup _ :: _, _, h => by cases h
  | .lst _ :: _, _, h => by cases h
  | .mu _ :: _, _, h => by cases h
  | .fz _ :: _, _, h => by cases h
def oAll (M : MM) : List D → Option D
  | [.lst xs] => match boolsOf xs with
    | some bs => some (.bl (bs.all id))
    | none => none
  | _ => none
theorem s_all : CallS tb K (rAll K) oAll := by
  intro H ms ex M v x z Q m rv e q
  unfold oAll at e
  split at e
  · split at e
    · rename_i bs hb
      cases e
      cases rv with
      | cons a b =>
        cases b
        cases a with
        | lst s n1 n2 r =>
          rw [boolsOf_eq hb] at r
          rw [r.bools] at s
          exact ⟨_, _, rfl, SqL.of s, q H _ (Ext.refl H) m (.bl _)⟩
    · cases e
  · cases e
def maxL : Int → List Int → Int
  | x, [] => x
  | x, y :: ys => maxL (if y > x then y else x) ys
theorem maxL_ge : ∀ (ys : List Int) (x : Int), x ≤ maxL x ys ∧ (∀ y ∈ ys, y ≤ maxL x ys) ∧ (maxL x ys = x ∨ maxL x ys ∈ ys)
  | [], x => ⟨Int.le_refl _, fun _ h => absurd h (by simp), Or.inl rfl⟩
  | y :: ys, x => by
    unfold maxL
    obtain ⟨h1, h2, h3⟩ := maxL_ge ys (if y > x then y else x)
    refine ⟨?_, fun z hz => ?_, ?_⟩
    · split at h1 <;> rename_i h <;> simp only [h, if_true, if_false] <;> omega
    · rcases List.mem_cons.mp hz with e | hz
      · subst e
        split at h1 <;> rename_i h <;> simp only [h, if_true, if_false] <;> omega
      · exact h2 z hz
    · rcases h3 with h3 | h3
      · by_cases h : y > x
        · rw [h3, if_pos h]
          exact .inr List.mem_cons_self
        · rw [h3, if_neg h]
          exact .inl rfl
      · exact .inr (List.mem_cons_of_mem _ h3)
def oMax (M : MM) : List D → Option D
  | [.lst xs] => match intsOf xs with
    | some (i :: is) => some (.int (maxL i is))
    | _ => none
  | [.int i, .int j] => some (.int (if j > i then j else i))
  | [.int i, .int j, .int k] => some (.int (if k > (if j > i then j else i) then k else (if j > i then j else i)))
  | _ => none
def rMaxA (K : PySem.W.Frag) : List V → Hp → VK → Prop := fun xs H Q => (rMax K xs H Q ∨ ∃ i j, xs = [.int i, .int j] ∧ Q (.int (if j > i then j else i)) H) ∨ rNuC3 nuMax3 xs H Q
theorem call_maxA (hc : X.calm = true) : CallR X (.builtin "max") (rMaxA X.K) := ((cr_max hc).or (call_max2 hc)).or (call_max3Nu hc)
theorem s_max : CallS tb K (rMaxA K) oMax := by
  intro H ms ex M v x z Q m rv e q
  unfold oMax at e
  split at e
  · split at e
    · rename_i i is hb
      cases e
      cases rv with
      | cons a b =>
        cases b
        cases a with
        | lst s n1 n2 r =>
          rw [intsOf_eq hb] at r
          rw [r.ints] at s
          refine .inl (.inl ⟨_, i :: is, rfl, SqL.of s, by simp, fun mm h1 h2 => ?_⟩)
          have e : mm = maxL i is := by
            obtain ⟨g1, g2, g3⟩ := maxL_ge is i
            have a1 : maxL i is ≤ mm := by
              rcases g3 with g3 | g3
              · rw [g3]
                exact h2 _ List.mem_cons_self
              · exact h2 _ (List.mem_cons_of_mem _ g3)
            have a2 : mm ≤ maxL i is := by
              rcases List.mem_cons.mp h1 with h1 | h1
              · rw [h1]
                exact g1
              · exact g2 _ h1
            omega
          rw [e]
          exact q H _ (Ext.refl H) m (.int _)
    · cases e
  · cases e
    cases rv with
    | cons a b =>
      cases b with
      | cons b c =>
        cases c
        cases a
        cases b
        exact .inl (.inr ⟨_, _, rfl, q H _ (Ext.refl H) m (.int _)⟩)
  · rename_i i j k
    cases e
    cases rv with
    | cons a b =>
      cases b with
      | cons b c =>
        cases c with
        | cons c d =>
          cases d
          cases a
          cases b
          cases c
          refine .inr ⟨_, _, _, _, rfl, ?_, q H _ (Ext.refl H) m (.int _)⟩
          have h0 : ∀ a b : Int, nuMax2 (.int a) (.int b) = some (.int (if b > a then b else a)) := fun a b => by
            unfold nuMax2
            show some (if decide (a < b) = true then V.int b else V.int a) = _
            by_cases h : a < b
            · rw [if_pos (decide_eq_true h), if_pos h]
            · rw [if_neg (by simp [h]), if_neg h]
          unfold nuMax3
          rw [h0]
          show nuMax2 _ _ = _
          rw [h0]
  · cases e
def oAbs (M : MM) : List D → Option D
  | [.int i] => some (.int (if i < 0 then -i else i))
  | _ => none
theorem s_abs : CallS tb K (fun xs H Q => ∃ i, xs = [.int i] ∧ Q (.int (if i < 0 then -i else i)) H) oAbs := by
  intro H ms ex M v x z Q m rv e q
  unfold oAbs at e
  split at e
  · cases e
    cases rv with
    | cons a b =>
      cases b
      cases a
      exact ⟨_, rfl, q H _ (Ext.refl H) m (.int _)⟩
  · cases e
def oInt (M : MM) : List D → Option D
  | [.int i] => some (.int i)
  | _ => none
theorem s_int : CallS tb K (fun xs H Q => (∃ i, xs = [.int i] ∧ Q (.int i) H) ∨ ∃ k, xs = [.bl k] ∧ Q (.int (if k then 1 else 0)) H) oInt := by
  intro H ms ex M v x z Q m rv e q
  unfold oInt at e
  split at e
  · cases e
    cases rv with
    | cons a b =>
      cases b
      cases a
      exact .inl ⟨_, rfl, q H _ (Ext.refl H) m (.int _)⟩
  · cases e

/-! ### isinstance -/
def tyN : D → String
  | .non => "NoneType"
  | .bl _ => "bool"
  | .int _ => "int"
  | .str _ => "str"
  | .tup _ => "tuple"
  | .ct _ => "tuple"
  | .lst _ => "list"
  | .fz _ => "list"
  | _ => "dict"
/-- its sort is asked for here -/
def tyd : D → Bool
  | .mu _ => false
  | .dk _ _ => false
  | .dt _ _ => false
  | .ins _ _ _ => false
  | _ => true
theorem RV.tyx {v : V} {d : D} (m : RM tb K H ms ex M) (h : RV K H ms ex v d) (t : tyd d = true) : TyX K H v (.type (tyN d)) := by
  cases h with
  | non => exact .base .non
  | bl b => exact .base (.bl b)
  | int i => exact .base (.int i)
  | str x => exact .base (.str x)
  | tup s r => exact .base (.tup s)
  | ct s r =>
    rcases s with (s | ⟨o, s⟩) | ⟨o, its, n, h1, h2, _⟩
    · exact .base (.tup s)
    · exact .fTuple s
    · exact .kTuple h1 h2
  | lst s _ _ _ => exact .base (.lst s)
  | fz s _ =>
    rcases s with ⟨o, s⟩ | ⟨o, its, n, h1, h2, _⟩
    · exact .base (.frz s)
    · exact .kList h1 h2
  | mu e => cases t
  | dk _ _ _ _ _ => cases t
  | dt _ _ _ _ _ => cases t
  | ins _ _ _ _ _ => cases t
def isT (T : String) : D → Bool
  | .non => false
  | .bl _ => T == "bool" || T == "int"
  | .int _ => T == "int"
  | .str _ => T == "str"
  | .tup _ => T == "tuple"
  | .ct _ => T == "tuple"
  | .lst _ => T == "list"
  | .fz _ => T == "list"
  | _ => false
def mIs (T : String) (f : FE) : FE := fun r M => match f r M with
  | some (d, M1) => if tyd d then some (.bl (isT T d), M1) else none
  | none => none
def TyOk (T : String) : Prop := ∀ d : D, tyd d = true → kitB (tyN d) T = some (isT T d)
theorem ty_int : TyOk "int" := fun d h => by cases d <;> first | (dsimp only [tyN, isT]; decide +kernel) | cases h
theorem ty_bool : TyOk "bool" := fun d h => by cases d <;> first | (dsimp only [tyN, isT]; decide +kernel) | cases h
theorem ty_tuple : TyOk "tuple" := fun d h => by cases d <;> first | (dsimp only [tyN, isT]; decide +kernel) | cases h
theorem ty_str : TyOk "str" := fun d h => by cases d <;> first | (dsimp only [tyN, isT]; decide +kernel) | cases h
theorem ty_list : TyOk "list" := fun d h => by cases d <;> first | (dsimp only [tyN, isT]; decide +kernel) | cases h
theorem me_isi {x y : Str} {p p3 : Pos} {T : String} (hT : TyOk T) (hg : Gl X x) (hm : X.mg x = none) (hv : bootBuiltins x = some (.builtin "isinstance")) (hg2 : Gl X y) (hm2 : X.mg y = none) (hv2 : bootBuiltins y = some (.type T)) (ha : PE X a (eM tb X.K f))
    (hn : x ≠ "__name__" := by decide) (hdb : (x == ("__debug__" : Str)) = false := by decide) (hn2 : y ≠ "__name__" := by decide) (hdb2 : (y == ("__debug__" : Str)) = false := by decide)
    (hs : starEach [a, .Name y p3] X.env = (false, eval a X.env) :: starEach [.Name y p3] X.env := by rfl) (hpl : (backTo pos (starEach [.Name y p3] X.env)).any (·.1) = false := by rfl) (hs2 : starEach [.Name y p3] X.env = (false, eval (.Name y p3) X.env) :: starEach [] X.env := by rfl) :
    PE X (.Call (.Name x p) [a, .Name y p3] [] pos) (eM tb X.K (mIs T f)) :=
  (pe_callB call_isi hg hm hv (pa_cons ha (pa_cons (pe_bltn hg2 hm2 hv2 (v := .ty T) rfl hn2 hdb2) pa_nil hs2) hs) hn hdb hs hpl).weak fun σ H Q h => by
    obtain ⟨ms, ex, r, M, d', M', m, s, e, q⟩ := h
    unfold mIs at e
    split at e
    · rename_i d M1 h1
      split at e
      · rename_i td
        cases e
        refine eM.use m s h1 fun H1 v1 x1 m1 s1 r1 => ?_
        exact ⟨v1, .ty T, _, _, _, rfl, .ty T, r1.tyx m1 td, kit_ty (hT d td), q H1 _ x1 m1 (.bl _)⟩
      · cases e
    · cases e

/-! ### calls of the text's own -/
theorem me_call {CX : CXT} {k n : Nat} {fA : Addr} {fd : FuncData} {ps : List Str} {x : Str} {p : Pos} {gc : FC} {E : XK} (F : FnOk X.prog X.w X.K X.mg X.base CX k fA fd ps (spM tb X.K n gc)) (hr : Room k X.A) (hg : Gl X x) (hm : X.mg x = some (.ref fA)) (hk : PySem.W.keepIn X.K (.ref fA) = true)
    (hb : Binds X.K fd ps []) (hx : Passes CX X E) (ha : PA X (a :: es) (aM tb X.K fa)) (hl : ∀ r M ds M', fa r M = some (ds, M') → ds.length = n) (hdb : (x == ("__debug__" : Str)) = false := by decide)
    (he : starEach (a :: es) X.env = (false, eval a X.env) :: starEach es X.env := by rfl) (hpl : (backTo pos (starEach es X.env)).any (·.1) = false := by rfl) : PE X (.Call (.Name x p) (a :: es) [] pos) (eM tb X.K (mCall gc fa)) :=
  (pe_call F hr hg hm hk hb .nil hx ha hdb he hpl).weak fun σ H Q h => by
    obtain ⟨ms, ex, r, M, d', M', m, s, e, q⟩ := h
    unfold mCall at e
    split at e
    · rename_i ds M1 h1
      refine aM.use m s h1 fun H1 v1 x1 m1 s1 r1 => ?_
      refine ⟨ms, ex, M1, ds, d', M', m1, ?_, hl _ _ _ _ h1, e, fun H2 v2 x2 m2 r2 => q H2 v2 (x1.trans x2) m2 r2⟩
      rw [List.append_nil]
      exact r1
    · cases e
theorem ll_nil : ∀ r M ds M', mNil r M = some (ds, M') → ds.length = 0 := by
  intro r M ds M' h
  cases h
  rfl
theorem ll_cons {n : Nat} (h : ∀ r M ds M', fa r M = some (ds, M') → ds.length = n) : ∀ r M ds M', mCons f fa r M = some (ds, M') → ds.length = n + 1 := by
  intro r M ds M' e
  unfold mCons at e
  split at e
  · split at e
    · rename_i h2
      cases e
      exact congrArg (· + 1) (h _ _ _ _ h2)
    · cases e
  · cases e
end
end NL

/-! ML4: statements, loops, comprehensions, defs. -/
namespace NL
open PySem PySem.Spec PyProof.Rows L2
variable {tb : List Addr} {K : PySem.W.Frag} {H H' H1 : Hp} {ms ms' ex ex' : List Addr} {M M' M1 : MM}

/-! ### plain functions -/
def mSkip : FS := fun r M => some (.nx r, M)
def mSeq (f g : FS) : FS := fun r M => match f r M with
  | some (.nx r1, M1) => g r1 M1
  | some (.rt d, M1) => some (.rt d, M1)
  | some (.bk r1, M1) => some (.bk r1, M1)
  | some (.ct r1, M1) => some (.ct r1, M1)
  | none => none
def mRet (f : FE) : FS := fun r M => match f r M with
  | some (d, M1) => some (.rt d, M1)
  | none => none
def mDrop (f : FE) : FS := fun r M => match f r M with
  | some (d, M1) => some (.nx r, M1)
  | none => none
def mIfS (c : FB) (f g : FS) : FS := fun r M => match c r M with
  | some (true, M1) => f r M1
  | some (false, M1) => g r M1
  | none => none
def mNever : FS := fun _ _ => none
def mSet (i : Nat) (f : FE) : FS := fun r M => match f r M with
  | some (d, M1) => some (.nx (r.set i (some d)), M1)
  | none => none
/-- a, b = e, e' -/
def mPar2 (i j : Nat) (f : FA) : FS := fun r M => match f r M with
  | some ([x, y], M1) => some (.nx ((r.set i (some x)).set j (some y)), M1)
  | _ => none
def mPar3 (i j l : Nat) (f : FA) : FS := fun r M => match f r M with
  | some ([x, y, z], M1) => some (.nx (((r.set i (some x)).set j (some y)).set l (some z)), M1)
  | _ => none
def tgName (i : Nat) : FT := fun d r => some (r.set i (some d))
def tgNil : List D → En → Option En
  | [], r => some r
  | _, _ => none
def tgCons (f : FT) (g : List D → En → Option En) : List D → En → Option En
  | d :: ds, r => match f d r with
    | some r1 => g ds r1
    | none => none
  | [], _ => none
def tgTup (n : Nat) (g : List D → En → Option En) : FT := fun d r => match d with
  | .tup ds => if ds.length = n then g ds r else none
  | _ => none
def mAsg (f : FE) (g : FT) : FS := fun r M => match f r M with
  | some (d, M1) => match g d r with
    | some r1 => some (.nx r1, M1)
    | none => none
  | none => none
/-- o[i] = e, o a list that may change -/
def mStore (fe fo fi : FE) : FS := fun r M => match fe r M with
  | some (d, M1) => match fo r M1 with
    | some (.mu n, M2) => match fi r M2 with
      | some (.int i, M3) => match M3[n]? with
        | some (.lst xs) => match ixN xs.length i with
          | some j => some (.nx r, M3.set n (.lst (xs.set j d)))
          | none => none
        | _ => none
      | _ => none
    | _ => none
  | none => none
def forD (tg : FT) (f : FS) : List D → FS
  | [], r, M => some (.nx r, M)
  | d :: ds, r, M => match tg d r with
    | some r1 => match f r1 M with
      | some (.nx r2, M2) => forD tg f ds r2 M2
      | some (.ct r2, M2) => forD tg f ds r2 M2
      | some (.bk r2, M2) => some (.nx r2, M2)
      | some (.rt d, M2) => some (.rt d, M2)
      | none => none
    | none => none
/-- what a loop walks: a tuple's items, a list's -/
def itemsT : D → Option (List D)
  | .tup xs => some xs
  | _ => none
def itemsL : D → Option (List D)
  | .lst xs => some xs
  | _ => none
def mFor (it : D → Option (List D)) (fi : FE) (tg : FT) (f : FS) : FS := fun r M => match fi r M with
  | some (d, M1) => match it d with
    | some xs => forD tg f xs r M1
    | none => none
  | none => none
def rangeD (lo : Int) (n : Nat) : List D := (List.range n).map fun (i : Nat) => D.int (lo + (i : Int))
def rng1 : List D → Option (Int × Int)
  | [.int j] => if j.natAbs ≤ 1000000 then some (0, j) else none
  | _ => none
def rng2 : List D → Option (Int × Int)
  | [.int i, .int j] => if i.natAbs ≤ 1000000 ∧ j.natAbs ≤ 1000000 then some (i, j) else none
  | _ => none
def mForR (rg : List D → Option (Int × Int)) (fa : FA) (tg : FT) (f : FS) : FS := fun r M => match fa r M with
  | some (ds, M1) => match rg ds with
    | some (i, j) => forD tg f (rangeD i (j - i).toNat) r M1
    | none => none
  | none => none
def whileD (c : FB) (f : FS) : Nat → FS
  | 0, _, _ => none
  | n + 1, r, M => match c r M with
    | some (false, M1) => some (.nx r, M1)
    | some (true, M1) => match f r M1 with
      | some (.nx r2, M2) => whileD c f n r2 M2
      | some (.ct r2, M2) => whileD c f n r2 M2
      | some (.bk r2, M2) => some (.nx r2, M2)
      | some (.rt d, M2) => some (.rt d, M2)
      | none => none
    | none => none
def wipeD (r : En) : List Nat → En
  | [] => r
  | v :: vs => (wipeD r vs).set v none
def mYes : FB := fun _ M => some (true, M)
def lcD (tg : FT) (t : FB) (e : FE) (r : En) : List D → MM → Option (List D × MM)
  | [], M => some ([], M)
  | d :: ds, M => match tg d r with
    | some r1 => match t r1 M with
      | some (true, M1) => match e r1 M1 with
        | some (y, M2) => match lcD tg t e r ds M2 with
          | some (ys, M3) => some (y :: ys, M3)
          | none => none
        | none => none
      | some (false, M1) => lcD tg t e r ds M1
      | none => none
    | none => none
def mLc (it : D → Option (List D)) (fi : FE) (tg : FT) (t : FB) (e : FE) (vs : List Nat) : FE := fun r M => match fi r M with
  | some (d, M1) => match it d with
    | some xs => if xs.length ≤ 1000 then match lcD tg t e (wipeD r vs) xs M1 with
        | some (ys, M2) => some (.lst ys, M2)
        | none => none
      else none
    | none => none
  | none => none
def mLcR (rg : List D → Option (Int × Int)) (fa : FA) (tg : FT) (t : FB) (e : FE) (vs : List Nat) : FE := fun r M => match fa r M with
  | some (ds, M1) => match rg ds with
    | some (i, j) => if (j - i).toNat ≤ 1000 then match lcD tg t e (wipeD r vs) (rangeD i (j - i).toNat) M1 with
        | some (ys, M2) => some (.lst ys, M2)
        | none => none
      else none
    | none => none
  | none => none
def startD (n : Nat) (ds : List D) : En := ds.map some ++ List.replicate (n - ds.length) none
/-- a def: its slots, its body -/
def mFun (n : Nat) (f : FS) : FC := fun ds M => match f (startD n ds) M with
  | some (.rt d, M1) => some (d, M1)
  | some (.nx _, M1) => some (.non, M1)
  | _ => none

/-! ### the slots wiped -/
theorem Sl.wipe1 {σ : L2.St} {r : En} {i : Nat} (h : Sl K H ms ex σ r) : Sl K H ms ex (σ.set i none) (r.set i none) :=
  ⟨by simp [h.len], fun j e q => by
    by_cases hj : i = j
    · subst hj
      by_cases hi : i < r.length
      · rw [List.getElem?_set_self hi] at q
        cases q
      · rw [List.getElem?_eq_none (by simpa using hi)] at q
        cases q
    · rw [List.getElem?_set_ne hj] at q
      obtain ⟨w, a, b⟩ := h.at_ j e q
      exact ⟨w, by rw [List.getElem?_set_ne hj]; exact a, b⟩⟩
theorem Sl.wipe {σ : L2.St} {r : En} (h : Sl K H ms ex σ r) : ∀ vs : List Nat, Sl K H ms ex (L2.wipe σ vs) (wipeD r vs)
  | [] => h
  | v :: vs => (Sl.wipe h vs).wipe1

section
variable {X : Cx} {pos p2 : Pos} {a b c : Expr} {es : List Expr} {f g h : FE} {fa : FA} {st : Stmt} {sts : List Stmt} {fs gs : FS} {fb : FB} {tg : Expr} {ft : FT}

theorem sM.use {σ : L2.St} {r : En} {f : FS} {o : Out} {E : Ends} (m : RM tb K H ms ex M) (s : Sl K H ms ex σ r) (e : f r M = some (o, M'))
    (q : ∀ H', Ext ms H H' → RM tb K H' ms ex M' → oEnd K ms ex E H' o) : sM tb K f E σ H :=
  ⟨ms, ex, r, M, o, M', m, s, e, q⟩
theorem mss_nil : PSs X [] (sM tb X.K mSkip) := pss_nil.weak fun E σ H h => by
  obtain ⟨ms, ex, r, M, o, M', m, s, e, q⟩ := h
  cases e
  exact q H (Ext.refl H) m σ s
theorem mss_one (h : PS X st (sM tb X.K fs)) : PSs X [st] (sM tb X.K fs) := pss_one h
theorem mss_cons (h1 : PS X st (sM tb X.K fs)) (h2 : PSs X sts (sM tb X.K gs)) : PSs X (st :: sts) (sM tb X.K (mSeq fs gs)) :=
  (pss_cons h1 h2).weak fun E σ H h => by
    obtain ⟨ms, ex, r, M, o, M', m, s, e, q⟩ := h
    unfold mSeq at e
    split at e
    · rename_i r1 M1 h1
      refine sM.use m s h1 fun H1 x1 m1 σ1 s1 => ?_
      exact sM.use m1 s1 e fun H2 x2 m2 => q H2 (x1.trans x2) m2
    · rename_i d M1 h1
      cases e
      exact sM.use m s h1 fun H1 x1 m1 => q H1 x1 m1
    · rename_i d M1 h1
      cases e
      exact sM.use m s h1 fun H1 x1 m1 => q H1 x1 m1
    · rename_i d M1 h1
      cases e
      exact sM.use m s h1 fun H1 x1 m1 => q H1 x1 m1
    · cases e
theorem ms_ret (he : PE X a (eM tb X.K f)) : PS X (.Return (some a) pos) (sM tb X.K (mRet f)) := (ps_ret he).weak fun E σ H h => by
  obtain ⟨ms, ex, r, M, o, M', m, s, e, q⟩ := h
  unfold mRet at e
  split at e
  · rename_i d M1 h1
    cases e
    exact eM.use m s h1 fun H1 v1 x1 m1 s1 r1 => q H1 x1 m1 v1 r1
  · cases e
theorem ms_expr (he : PE X a (eM tb X.K f)) (hs : swapsWith a none pos.line X.env = Pure.pure false := by rfl) : PS X (.Expr a pos) (sM tb X.K (mDrop f)) := (ps_expr he hs).weak fun E σ H h => by
  obtain ⟨ms, ex, r, M, o, M', m, s, e, q⟩ := h
  unfold mDrop at e
  split at e
  · rename_i d M1 h1
    cases e
    exact eM.use m s h1 fun H1 v1 x1 m1 s1 r1 => q H1 x1 m1 σ s1
  · cases e
theorem ms_if (hc : PT X c (bM tb X.K fb)) (ha : PSs X sts (sM tb X.K fs)) {sts2 : List Stmt} (hb : PSs X sts2 (sM tb X.K gs)) : PS X (.If c sts sts2 pos) (sM tb X.K (mIfS fb fs gs)) := (ps_if hc ha hb).weak fun E σ H h => by
  obtain ⟨ms, ex, r, M, o, M', m, s, e, q⟩ := h
  unfold mIfS at e
  split at e
  · rename_i M1 h1
    refine bM.use m s h1 fun H1 x1 m1 s1 => iteT ?_
    exact sM.use m1 s1 e fun H2 x2 m2 => q H2 (x1.trans x2) m2
  · rename_i M1 h1
    refine bM.use m s h1 fun H1 x1 m1 s1 => iteF ?_
    exact sM.use m1 s1 e fun H2 x2 m2 => q H2 (x1.trans x2) m2
  · cases e
theorem ms_never : PS X st (sM tb X.K mNever) := ps_never.weak fun E σ H h => by
  obtain ⟨ms, ex, r, M, o, M', m, s, e, q⟩ := h
  cases e
theorem mss_never : PSs X sts (sM tb X.K mNever) := pss_never.weak fun E σ H h => by
  obtain ⟨ms, ex, r, M, o, M', m, s, e, q⟩ := h
  cases e

/-! ### stores -/
theorem mt_set {i : Nat} {E : Ends} {σ : L2.St} (h : sM tb K (mSet i f) E σ H) : tAsg (eM tb K f) (gName i) E σ H := by
  obtain ⟨ms, ex, r, M, o, M', m, s, e, q⟩ := h
  unfold mSet at e
  split at e
  · rename_i d M1 h1
    cases e
    exact eM.use m s h1 fun H1 v1 x1 m1 s1 r1 => q H1 x1 m1 _ (s1.set r1)
  · cases e
theorem mg_name {i : Nat} {x : Str} (hN : X.N.Nodup) (hi : X.N[i]? = some x) (hx : Loc X.env.scope x) (hf : X.fn x = true ∨ X.env.scope.names.lookup x = some .local := by first | exact .inl rfl | exact .inr rfl | assumption) : PG X (.Name x pos) (gM X.K (tgName i)) :=
  (pg_name hN hi hx hf).weak fun v σ H Q h => by
    obtain ⟨ms, ex, r, d, r', s, rv, e, q⟩ := h
    cases e
    exact q _ (s.set rv)
theorem mgs_nil : PGs X [] (gsM X.K tgNil) := pgs_nil.weak fun v σ H Q h => by
  obtain ⟨ms, ex, r, d, r', s, rv, e, q⟩ := h
  unfold tgNil at e
  split at e
  · cases e
    cases rv
    exact ⟨rfl, q _ s⟩
  · cases e
theorem mgs_cons {ft : FT} {gt : List D → En → Option En} (h1 : PG X a (gM X.K ft)) (h2 : PGs X es (gsM X.K gt))
    (hs : (assignEach (a :: es) X.env).map (·.2) = assign a X.env :: (assignEach es X.env).map (·.2) := by rfl) : PGs X (a :: es) (gsM X.K (tgCons ft gt)) := (pgs_cons h1 h2 hs).weak fun v σ H Q h => by
  obtain ⟨ms, ex, r, d, r', s, rv, e, q⟩ := h
  unfold tgCons at e
  split at e
  · split at e
    · rename_i r1 h1
      cases rv with
      | cons rv1 rv2 =>
        exact ⟨_, _, rfl, ms, ex, r, _, r1, s, rv1, h1, fun σ1 s1 => ⟨ms, ex, r1, _, r', s1, rv2, e, fun σ2 s2 => q σ2 s2⟩⟩
    · cases e
  · cases e
theorem mg_tup {k : Nat} {gt : List D → En → Option En} {n : Nat} (hc : X.calm = true) (h : PGs X es (gsM X.K gt))
    (hn : (assignEach es X.env).length = n := by rfl) (hst : (assignEach es X.env).findIdx? (·.1) = none := by rfl) : PG X (.Tuple es k pos) (gM X.K (tgTup n gt)) := (pg_tup hc h hn hst).weak fun v σ H Q h => by
  obtain ⟨ms, ex, r, d, r', s, rv, e, q⟩ := h
  unfold tgTup at e
  split at e
  · split at e
    · rename_i hl
      cases rv with
      | tup sq rr => exact ⟨_, _, rfl, SqT.of sq, by rw [rr.length]; exact hl, ms, ex, r, _, r', s, rr, e, q⟩
    · cases e
  · cases e
theorem ms_asg (he : PE X a (eM tb X.K f)) (hg : PG X tg (gM X.K ft)) (hs : swapsWithSole [tg] a pos.line X.env = Pure.pure false := by rfl) (hw : swappedStores [tg] a X.env = Pure.pure none := by rfl)
    (h1 : (assignEach [tg] X.env).map (·.2) = [assign tg X.env] := by rfl) : PS X (.Assign [tg] a pos) (sM tb X.K (mAsg f ft)) := (ps_asg he hg hs hw h1).weak fun E σ H h => by
  obtain ⟨ms, ex, r, M, o, M', m, s, e, q⟩ := h
  unfold mAsg at e
  split at e
  · rename_i d M1 h1
    split at e
    · rename_i r1 h2
      cases e
      refine eM.use m s h1 fun H1 v1 x1 m1 s1 rv1 => ?_
      exact ⟨ms, ex, r, d, r1, s1, rv1, h2, fun σ2 s2 => q H1 x1 m1 σ2 s2⟩
    · cases e
  · cases e
theorem mt_par2 {i j : Nat} {E : Ends} {σ : L2.St} (h : sM tb K (mPar2 i j fa) E σ H) : tPar i j (aM tb K fa) E σ H := by
  obtain ⟨ms, ex, r, M, o, M', m, s, e, q⟩ := h
  unfold mPar2 at e
  split at e
  · rename_i x y M1 h1
    cases e
    refine aM.use m s h1 fun H1 v1 x1 m1 s1 r1 => ?_
    cases r1 with
    | cons r1 rr =>
      cases rr with
      | cons r2 rr =>
        cases rr
        exact ⟨_, _, rfl, q H1 x1 m1 _ ((s1.set r1).set r2)⟩
  · cases e
theorem mt_par3 {i j l : Nat} {E : Ends} {σ : L2.St} (h : sM tb K (mPar3 i j l fa) E σ H) : tPar3 i j l (aM tb K fa) E σ H := by
  obtain ⟨ms, ex, r, M, o, M', m, s, e, q⟩ := h
  unfold mPar3 at e
  split at e
  · rename_i x y M1 h1
    cases e
    refine aM.use m s h1 fun H1 v1 x1 m1 s1 r1 => ?_
    cases r1 with
    | cons r1 rr =>
      cases rr with
      | cons r2 rr =>
        cases rr with
        | cons r3 rr =>
          cases rr
          exact ⟨_, _, _, rfl, q H1 x1 m1 _ (((s1.set r1).set r2).set r3)⟩
  · cases e
theorem RM.store {n : Nat} {p : Addr} {o : HO} {d : D} (m : RM tb K H ms ex M) (e1 : ms[n]? = some p) (h : n < M.length) (nt : ∀ ps, o ≠ .tbl ps) (th : Thing H p) (r : Ext ms H (upd H p o) → Raw K (upd H p o) ms ex p d) :
    Ext ms H (upd H p o) ∧ RM tb K (upd H p o) ms ex (M.set n d) := by
  have hp : p ∈ ms := List.mem_of_getElem? e1
  have stay : ∀ b u, H b = some u → b ∉ ms → upd H p o b = some u := fun b u q nb => by
    have : b ≠ p := fun z => nb (z ▸ hp)
    rw [upd_ne this]
    exact q
  have x : Ext ms H (upd H p o) := ⟨fun b u q nb _ => stay b u q nb, fun b ps q nb => ⟨ps, stay b _ q nb⟩⟩
  refine ⟨x, ⟨by rw [List.length_set]; exact m.len, m.nd, fun k b ds' h1 h2 => ?_, fun b hb => ?_, fun b hb => ?_⟩⟩
  · by_cases hk : n = k
    · subst hk
      rw [List.getElem?_set_self h] at h2
      cases h2
      rw [e1] at h1
      cases h1
      exact r x
    · rw [List.getElem?_set_ne hk] at h2
      have this : b ≠ p := fun z => hk (by
        subst z
        obtain ⟨l1, g1⟩ := List.getElem?_eq_some_iff.mp e1
        obtain ⟨l2, g2⟩ := List.getElem?_eq_some_iff.mp h1
        exact (List.getElem_inj m.nd).mp (g1.trans g2.symm))
      exact (m.at_ k b ds' h1 h2).of (fun u q _ => by rw [upd_ne this]; exact q) fun rr => rr.ext m x
  · obtain ⟨n1, t⟩ := m.exs b hb
    have this : b ≠ p := fun z => n1 (z ▸ hp)
    refine ⟨n1, ?_⟩
    unfold Thing
    rw [upd_ne this]
    exact t
  · obtain ⟨ps, q, t⟩ := m.tbs b hb
    have this : b ≠ p := fun z => th.ne (z ▸ q) (fun _ y => by cases y) (fun _ y => by cases y) fun _ y => by cases y
    exact ⟨ps, by rw [upd_ne this]; exact q, t⟩
theorem mt_store {E : Ends} {σ : L2.St} {H : Hp} {f g h : FE} (h0 : sM tb K (mStore f g h) E σ H) : tAsg (eM tb K f) (gSub (eM tb K g) (eM tb K h) rSetL) E σ H := by
  obtain ⟨ms, ex, r, M, o, M', m, s, e, q⟩ := h0
  unfold mStore at e
  split at e
  · rename_i d M1 h1
    split at e
    · rename_i n M2 h2
      split at e
      · rename_i i M3 h3
        split at e
        · rename_i xs h4
          split at e
          · rename_i j h5
            cases e
            refine eM.use m s h1 fun H1 v1 x1 m1 s1 r1 => ?_
            refine eM.use m1 s1 h2 fun H2 v2 x2 m2 s2 r2 => ?_
            refine eM.use m2 s2 h3 fun H3 v3 x3 m3 s3 r3 => ?_
            cases r3
            have r2' := r2.ext m2 x3
            cases r2' with
            | mu e1 =>
              cases m3.at_ _ _ _ e1 h4 with
              | lst sq rr =>
                have rd := (r1.ext m1 x2).ext m2 x3
                have hn : n < M3.length := (List.getElem?_eq_some_iff.mp h4).1
                obtain ⟨x4, m4⟩ := m3.store e1 hn (fun _ z => by cases z) (.inl ⟨_, sq⟩) fun x => .lst upd_same ((rr.set rd j).ext m3 x)
                exact ⟨_, _, i, j, rfl, rfl, sq, by rw [rr.length]; exact h5, q _ (((x1.trans x2).trans x3).trans x4) m4 σ (s3.ext m3 x4)⟩
          · cases e
        · cases e
      · cases e
    · cases e
  · cases e

/-! ### loops -/
/-- the loop's reading, for what yields the items of a list of data, one a turn -/
theorem for_core {wi : TI} {J : It} {E : Ends} {σ : L2.St} {r : En} {xs : List D} {o : Out} (m : RM tb K H ms ex M) (s : Sl K H ms ex σ r) (e : forD ft fs xs r M = some (o, M')) (q : ∀ H', Ext ms H H' → RM tb K H' ms ex M' → oEnd K ms ex E H' o)
    (hgo : ∀ (i : Nat) (H' : Hp) (d : D), Ext ms H H' → xs[i]? = some d → J.go i H' ∧ ∀ x H2, J.yld i H' x H2 → H2 = H' ∧ ∀ M2, RM tb K H' ms ex M2 → RV K H' ms ex x d) (hst : ∀ H', Ext ms H H' → J.stop xs.length H') :
    ∃ W : Nat → Nat → L2.St → Hp → Prop, (∃ k, W 0 k σ H) ∧ ∀ i k σ H, W i k σ H →
      (J.stop i H ∧ E.nx σ H) ∨ (J.go i H ∧ ∃ N : L2.St → Hp → Prop, (∀ σ' H', N σ' H' → ∃ k', k' < k ∧ W (i + 1) k' σ' H') ∧ ∀ x H', J.yld i H x H' → gM K ft x σ H' fun σ2 H2 => sM tb K fs { E with nx := N, ct := N, bk := E.nx } σ2 H2) := by
  refine ⟨fun i k σ' H' => k = xs.length - i ∧ i ≤ xs.length ∧ ∃ r' M1, Ext ms H H' ∧ RM tb K H' ms ex M1 ∧ Sl K H' ms ex σ' r' ∧ forD ft fs (xs.drop i) r' M1 = some (o, M'), ⟨xs.length, by omega, Nat.zero_le _, r, M, Ext.refl H, m, s, e⟩, ?_⟩
  rintro i k σ1 H1 ⟨hk, hi, r1, M1, x1, m1, s1, e1⟩
  by_cases hlt : i < xs.length
  · obtain ⟨hg, hy⟩ := hgo i H1 xs[i] x1 (List.getElem?_eq_getElem hlt)
    rw [List.drop_eq_getElem_cons hlt] at e1
    unfold forD at e1
    split at e1
    · rename_i r2 h2
      refine .inr ⟨hg, fun σ' H' => i + 1 ≤ xs.length ∧ ∃ r' M2, Ext ms H H' ∧ RM tb K H' ms ex M2 ∧ Sl K H' ms ex σ' r' ∧ forD ft fs (xs.drop (i + 1)) r' M2 = some (o, M'), fun σ' H' hN => ⟨xs.length - (i + 1), by omega, rfl, hN⟩, fun x H' hx => ?_⟩
      obtain ⟨eH, rv⟩ := hy x H' hx
      subst eH
      have rv := rv M1 m1
      refine ⟨ms, ex, r1, xs[i], r2, s1, rv, h2, fun σ2 s2 => ?_⟩
      split at e1
      · rename_i r3 M3 h3
        exact sM.use m1 s2 h3 fun H3 x3 m3 σ3 s3 => ⟨hlt, r3, M3, x1.trans x3, m3, s3, e1⟩
      · rename_i r3 M3 h3
        exact sM.use m1 s2 h3 fun H3 x3 m3 σ3 s3 => ⟨hlt, r3, M3, x1.trans x3, m3, s3, e1⟩
      · rename_i r3 M3 h3
        cases e1
        exact sM.use m1 s2 h3 fun H3 x3 m3 σ3 s3 => q H3 (x1.trans x3) m3 σ3 s3
      · rename_i d3 M3 h3
        cases e1
        exact sM.use m1 s2 h3 fun H3 x3 m3 v3 rv3 => q H3 (x1.trans x3) m3 v3 rv3
      · cases e1
    · cases e1
  · have ei : i = xs.length := by omega
    subst ei
    rw [List.drop_length] at e1
    cases e1
    exact .inl ⟨hst H1 x1, q H1 x1 m1 σ1 s1⟩
theorem itt_go {vs : List V} {ds : List D} {q : Addr} (m : RM tb K H ms ex M) (sq : SqT K H q vs) (rr : RVs K H ms ex vs ds) (i : Nat) (H' : Hp) (d : D) (x : Ext ms H H') (hd : ds[i]? = some d) :
    (Itt K q).go i H' ∧ ∀ v H2, (Itt K q).yld i H' v H2 → H2 = H' ∧ ∀ M2, RM tb K H' ms ex M2 → RV K H' ms ex v d := by
  have sq' : SqT K H' q vs := SqT.stay (ms := ms) (ex := ex) (fun _ z => m.lst z) (fun b o e n _ t => x b o e n t) sq
  obtain ⟨v0, h0, rv0⟩ := rr.get hd
  refine ⟨⟨vs, v0, sq', h0⟩, fun v H2 hy => ⟨hy.1, fun _ _ => ?_⟩⟩
  have := hy.2 vs sq'
  rw [h0] at this
  cases this
  exact rv0.ext m x
theorem itt_stop {vs : List V} {ds : List D} {q : Addr} (m : RM tb K H ms ex M) (sq : SqT K H q vs) (rr : RVs K H ms ex vs ds) (H' : Hp) (x : Ext ms H H') : (Itt K q).stop ds.length H' :=
  ⟨vs, SqT.stay (ms := ms) (ex := ex) (fun _ z => m.lst z) (fun b o e n _ t => x b o e n t) sq, by rw [rr.length]; exact Nat.le_refl _⟩
theorem itl_go {vs : List V} {ds : List D} {q : Addr} (m : RM tb K H ms ex M) (sq : H q = some (.lst vs)) (nq : q ∉ ms) (rr : RVs K H ms ex vs ds) (i : Nat) (H' : Hp) (d : D) (x : Ext ms H H') (hd : ds[i]? = some d) :
    (Itl K q).go i H' ∧ ∀ v H2, (Itl K q).yld i H' v H2 → H2 = H' ∧ ∀ M2, RM tb K H' ms ex M2 → RV K H' ms ex v d := by
  have sq' : SqL K H' q vs := SqL.of (x q _ sq nq fun _ z => by cases z)
  obtain ⟨v0, h0, rv0⟩ := rr.get hd
  refine ⟨⟨vs, v0, sq', h0⟩, fun v H2 hy => ⟨hy.1, fun _ _ => ?_⟩⟩
  have := hy.2 vs sq'
  rw [h0] at this
  cases this
  exact rv0.ext m x
theorem itl_stop {vs : List V} {ds : List D} {q : Addr} (sq : H q = some (.lst vs)) (nq : q ∉ ms) (rr : RVs K H ms ex vs ds) (H' : Hp) (x : Ext ms H H') : (Itl K q).stop ds.length H' :=
  ⟨vs, SqL.of (x q _ sq nq fun _ z => by cases z), by rw [rr.length]; exact Nat.le_refl _⟩
theorem rangeD_len (i : Int) (n : Nat) : (rangeD i n).length = n := by simp [rangeD]
theorem rangeD_get {i : Int} {n k : Nat} {d : D} (h : (rangeD i n)[k]? = some d) : k < n ∧ d = .int (i + k) := by
  unfold rangeD at h
  rw [List.getElem?_map] at h
  by_cases hk : k < n
  · rw [List.getElem?_range hk] at h
    cases h
    exact ⟨hk, rfl⟩
  · rw [List.getElem?_eq_none (by simpa using hk)] at h
    cases h
theorem itr_go {lo : Int} {n : Nat} (i : Nat) (H' : Hp) (d : D) (hd : (rangeD lo n)[i]? = some d) :
    (Itr lo n).go i H' ∧ ∀ v H2, (Itr lo n).yld i H' v H2 → H2 = H' ∧ ∀ M2, RM tb K H' ms ex M2 → RV K H' ms ex v d := by
  obtain ⟨h1, h2⟩ := rangeD_get hd
  refine ⟨h1, fun v H2 hy => ⟨hy.1, fun _ _ => ?_⟩⟩
  rw [hy.2, h2]
  exact .int _

theorem ms_forT (hp : PassesOwn (model X.prog X.w) X.A X.env X.xe) (hc : X.calm = true) (hi : PE X a (eM tb X.K f)) (hg : PG X tg (gM X.K ft)) (hb : PSs X sts (sM tb X.K fs)) (hs : ∀ x, foldedSetIterable a X.env x = Pure.pure x := by intro _; rfl) :
    PS X (.For tg a sts [] pos) (sM tb X.K (mFor itemsT f ft fs)) :=
  (ps_for hp hc (pi_tup hi) hg hb hs).weak fun E σ H h => by
    obtain ⟨ms, ex, r, M, o, M', m, s, e, q⟩ := h
    unfold mFor at e
    split at e
    · rename_i d M1 h1
      split at e
      · rename_i xs h2
        refine eM.use m s h1 fun H1 v1 x1 m1 s1 r1 => ?_
        unfold itemsT at h2
        split at h2
        · cases h2
          cases r1 with
          | tup sq rr => exact ⟨_, rfl, ⟨_, SqT.of sq⟩, for_core (wi := iTup X.K (eM tb X.K f)) m1 s1 e (fun H2 x2 m2 => q H2 (x1.trans x2) m2) (fun i H' d x hd => itt_go m1 (SqT.of sq) rr i H' d x hd) (fun H' x => itt_stop m1 (SqT.of sq) rr H' x)⟩
        · cases h2
      · cases e
    · cases e
theorem ms_forL (hp : PassesOwn (model X.prog X.w) X.A X.env X.xe) (hc : X.calm = true) (hi : PE X a (eM tb X.K f)) (hg : PG X tg (gM X.K ft)) (hb : PSs X sts (sM tb X.K fs)) (hs : ∀ x, foldedSetIterable a X.env x = Pure.pure x := by intro _; rfl) :
    PS X (.For tg a sts [] pos) (sM tb X.K (mFor itemsL f ft fs)) :=
  (ps_for hp hc (pi_list hi) hg hb hs).weak fun E σ H h => by
    obtain ⟨ms, ex, r, M, o, M', m, s, e, q⟩ := h
    unfold mFor at e
    split at e
    · rename_i d M1 h1
      split at e
      · rename_i xs h2
        refine eM.use m s h1 fun H1 v1 x1 m1 s1 r1 => ?_
        unfold itemsL at h2
        split at h2
        · cases h2
          cases r1 with
          | lst sq n1 n2 rr => exact ⟨_, rfl, ⟨_, SqL.of sq⟩, for_core (wi := iList X.K (eM tb X.K f)) m1 s1 e (fun H2 x2 m2 => q H2 (x1.trans x2) m2) (fun i H' d x hd => itl_go m1 sq n1 rr i H' d x hd) (fun H' x => itl_stop sq n1 rr H' x)⟩
        · cases h2
      · cases e
    · cases e
theorem ms_forR1 {x : Expr} {p : Pos} (hp : PassesOwn (model X.prog X.w) X.A X.env X.xe) (hc : X.calm = true) (hgl : Gl X "range") (hm : X.mg "range" = none) (hi : PA X [x] (aM tb X.K fa)) (hg : PG X tg (gM X.K ft)) (hb : PSs X sts (sM tb X.K fs))
    (h0 : starEach [x] X.env = [(false, eval x X.env)] := by rfl) (hs : ∀ y, foldedSetIterable (.Call (.Name "range" p) [x] [] p2) X.env y = Pure.pure y := by intro _; rfl) :
    PS X (.For tg (.Call (.Name "range" p) [x] [] p2) sts [] pos) (sM tb X.K (mForR rng1 fa ft fs)) :=
  (ps_for hp hc (pi_range1 hgl hm hi h0) hg hb hs).weak fun E σ H h => by
    obtain ⟨ms, ex, r, M, o, M', m, s, e, q⟩ := h
    unfold mForR at e
    split at e
    · rename_i ds M1 h1
      split at e
      · rename_i i j h2
        refine aM.use m s h1 fun H1 v1 x1 m1 s1 r1 => ?_
        unfold rng1 at h2
        split at h2
        · split at h2
          · rename_i hb2
            cases h2
            cases r1 with
            | cons r1 rr =>
              cases rr
              cases r1
              refine ⟨j, rfl, by omega, by omega, ?_⟩
              have e0 : (j - 0).toNat = j.toNat := by simp
              rw [e0] at e
              exact for_core (wi := iRng1 (aM tb X.K fa)) m1 s1 e (fun H2 x2 m2 => q H2 (x1.trans x2) m2) (fun i H' d x hd => itr_go i H' d hd) (fun H' x => by rw [rangeD_len]; exact Nat.le_refl _)
          · cases h2
        · cases h2
      · cases e
    · cases e
theorem ms_forR2 {x y : Expr} {p : Pos} (hp : PassesOwn (model X.prog X.w) X.A X.env X.xe) (hc : X.calm = true) (hgl : Gl X "range") (hm : X.mg "range" = none) (hi : PA X [x, y] (aM tb X.K fa)) (hg : PG X tg (gM X.K ft)) (hb : PSs X sts (sM tb X.K fs))
    (h0 : starEach [x, y] X.env = [(false, eval x X.env), (false, eval y X.env)] := by rfl) (h02 : starEach [y] X.env = [(false, eval y X.env)] := by rfl) (hs : ∀ z, foldedSetIterable (.Call (.Name "range" p) [x, y] [] p2) X.env z = Pure.pure z := by intro _; rfl) :
    PS X (.For tg (.Call (.Name "range" p) [x, y] [] p2) sts [] pos) (sM tb X.K (mForR rng2 fa ft fs)) :=
  (ps_for hp hc (pi_range2 hgl hm hi h0 h02) hg hb hs).weak fun E σ H h => by
    obtain ⟨ms, ex, r, M, o, M', m, s, e, q⟩ := h
    unfold mForR at e
    split at e
    · rename_i ds M1 h1
      split at e
      · rename_i i j h2
        refine aM.use m s h1 fun H1 v1 x1 m1 s1 r1 => ?_
        unfold rng2 at h2
        split at h2
        · split at h2
          · rename_i hb2
            cases h2
            cases r1 with
            | cons r1 rr =>
              cases rr with
              | cons r2 rr =>
                cases rr
                cases r1
                cases r2
                refine ⟨i, j, rfl, by omega, ?_⟩
                exact for_core (wi := iRng2 (aM tb X.K fa)) m1 s1 e (fun H2 x2 m2 => q H2 (x1.trans x2) m2) (fun i H' d x hd => itr_go i H' d hd) (fun H' x => by rw [rangeD_len]; exact Nat.le_refl _)
          · cases h2
        · cases h2
      · cases e
    · cases e
theorem ms_while (n : Nat) (hp : PassesOwn (model X.prog X.w) X.A X.env X.xe) (hc : PT X c (bM tb X.K fb)) (hb : PSs X sts (sM tb X.K fs)) : PS X (.While c sts [] pos) (sM tb X.K (whileD fb fs n)) :=
  (ps_while hp hc hb).weak fun E σ H h => by
    obtain ⟨ms, ex, r, M, o, M', m, s, e, q⟩ := h
    refine ⟨fun k σ' H' => ∃ r' M1, Ext ms H H' ∧ RM tb X.K H' ms ex M1 ∧ Sl X.K H' ms ex σ' r' ∧ whileD fb fs k r' M1 = some (o, M'), ⟨n, r, M, Ext.refl H, m, s, e⟩, ?_⟩
    rintro k σ1 H1 ⟨r1, M1, x1, m1, s1, e1⟩
    cases k with
    | zero => cases e1
    | succ k =>
      unfold whileD at e1
      split at e1
      · rename_i M2 h2
        cases e1
        exact bM.use m1 s1 h2 fun H2 x2 m2 s2 => iteF (q H2 (x1.trans x2) m2 σ1 s2)
      · rename_i M2 h2
        refine bM.use m1 s1 h2 fun H2 x2 m2 s2 => iteT ⟨fun σ' H' => ∃ r' M1, Ext ms H H' ∧ RM tb X.K H' ms ex M1 ∧ Sl X.K H' ms ex σ' r' ∧ whileD fb fs k r' M1 = some (o, M'), fun σ' H' hN => ⟨k, Nat.lt_succ_self _, hN⟩, ?_⟩
        split at e1
        · rename_i r3 M3 h3
          exact sM.use m2 s2 h3 fun H3 x3 m3 σ3 s3 => ⟨r3, M3, (x1.trans x2).trans x3, m3, s3, e1⟩
        · rename_i r3 M3 h3
          exact sM.use m2 s2 h3 fun H3 x3 m3 σ3 s3 => ⟨r3, M3, (x1.trans x2).trans x3, m3, s3, e1⟩
        · rename_i r3 M3 h3
          cases e1
          exact sM.use m2 s2 h3 fun H3 x3 m3 σ3 s3 => q H3 ((x1.trans x2).trans x3) m3 σ3 s3
        · rename_i d3 M3 h3
          cases e1
          exact sM.use m2 s2 h3 fun H3 x3 m3 v3 rv3 => q H3 ((x1.trans x2).trans x3) m3 v3 rv3
        · cases e1
      · cases e1
end
end NL

/-! ML5: comprehensions, defs, a list that may change. -/
namespace NL
open PySem PySem.Spec PyProof.Rows L2
variable {tb : List Addr} {K : PySem.W.Frag} {H H' H1 : Hp} {ms ms' ex ex' : List Addr} {M M' M1 : MM}

/-! ### slots forgotten and set -/
theorem wipe_set (x y : Option V) (i : Nat) : ∀ (vs : List Nat) (σ : L2.St), (L2.wipe (σ.set i x) vs).set i y = (L2.wipe σ vs).set i y
  | [], σ => by
    show (σ.set i x).set i y = σ.set i y
    rw [List.set_set]
  | v :: vs, σ => by
    show ((L2.wipe (σ.set i x) vs).set v none).set i y = ((L2.wipe σ vs).set v none).set i y
    by_cases h : v = i
    · subst h
      rw [List.set_set, List.set_set, wipe_set x y v vs σ]
    · rw [List.set_comm _ _ h, List.set_comm _ _ h, wipe_set x y i vs σ]
theorem wipe_same (x : Option V) (i : Nat) : ∀ (vs : List Nat) (σ : L2.St), i ∈ vs → L2.wipe (σ.set i x) vs = L2.wipe σ vs
  | [], _, h => by cases h
  | v :: vs, σ, h => by
    show (L2.wipe (σ.set i x) vs).set v none = (L2.wipe σ vs).set v none
    by_cases e : v = i
    · subst e
      exact wipe_set x none v vs σ
    · rcases List.mem_cons.mp h with h | h
      · exact absurd h.symm e
      · rw [wipe_same x i vs σ h]

/-! ### targets of a comprehension -/
def gW (K : PySem.W.Frag) (vs : List Nat) (f : FT) : TG := fun v σ H Q => ∃ ms ex r d r', Sl K H ms ex σ r ∧ RV K H ms ex v d ∧ f d r = some r' ∧ ∀ σ', Sl K H ms ex σ' r' → L2.wipe σ' vs = L2.wipe σ vs → Q σ' H
def gsW (K : PySem.W.Frag) (vs : List Nat) (f : List D → En → Option En) : TGs := fun v σ H Q => ∃ ms ex r d r', Sl K H ms ex σ r ∧ RVs K H ms ex v d ∧ f d r = some r' ∧ ∀ σ', Sl K H ms ex σ' r' → L2.wipe σ' vs = L2.wipe σ vs → Q σ' H
section
variable {X : Cx} {pos p2 : Pos} {a b c : Expr} {es : List Expr} {f g h fe : FE} {fa : FA} {st : Stmt} {sts : List Stmt} {fs gs : FS} {fb : FB} {tg : Expr} {ft : FT} {vs : List Nat}
theorem mw_name {i : Nat} {x : Str} (hv : i ∈ vs) (hN : X.N.Nodup) (hi : X.N[i]? = some x) (hx : Loc X.env.scope x) (hf : X.fn x = true ∨ X.env.scope.names.lookup x = some .local := by first | exact .inl rfl | exact .inr rfl | assumption) : PG X (.Name x pos) (gW X.K vs (tgName i)) :=
  (pg_name hN hi hx hf).weak fun v σ H Q h => by
    obtain ⟨ms, ex, r, d, r', s, rv, e, q⟩ := h
    cases e
    exact q _ (s.set rv) (wipe_same _ _ _ _ hv)
theorem mws_nil : PGs X [] (gsW X.K vs tgNil) := pgs_nil.weak fun v σ H Q h => by
  obtain ⟨ms, ex, r, d, r', s, rv, e, q⟩ := h
  unfold tgNil at e
  split at e
  · cases e
    cases rv
    exact ⟨rfl, q _ s rfl⟩
  · cases e
theorem mws_cons {ft : FT} {gt : List D → En → Option En} (h1 : PG X a (gW X.K vs ft)) (h2 : PGs X es (gsW X.K vs gt))
    (hs : (assignEach (a :: es) X.env).map (·.2) = assign a X.env :: (assignEach es X.env).map (·.2) := by rfl) : PGs X (a :: es) (gsW X.K vs (tgCons ft gt)) := (pgs_cons h1 h2 hs).weak fun v σ H Q h => by
  obtain ⟨ms, ex, r, d, r', s, rv, e, q⟩ := h
  unfold tgCons at e
  split at e
  · split at e
    · rename_i r1 h1
      cases rv with
      | cons rv1 rv2 =>
        exact ⟨_, _, rfl, ms, ex, r, _, r1, s, rv1, h1, fun σ1 s1 w1 => ⟨ms, ex, r1, _, r', s1, rv2, e, fun σ2 s2 w2 => q σ2 s2 (w2.trans w1)⟩⟩
    · cases e
  · cases e
theorem mw_tup {k : Nat} {gt : List D → En → Option En} {n : Nat} (hc : X.calm = true) (h : PGs X es (gsW X.K vs gt))
    (hn : (assignEach es X.env).length = n := by rfl) (hst : (assignEach es X.env).findIdx? (·.1) = none := by rfl) : PG X (.Tuple es k pos) (gW X.K vs (tgTup n gt)) := (pg_tup hc h hn hst).weak fun v σ H Q h => by
  obtain ⟨ms, ex, r, d, r', s, rv, e, q⟩ := h
  unfold tgTup at e
  split at e
  · split at e
    · rename_i hl
      cases rv with
      | tup sq rr => exact ⟨_, _, rfl, SqT.of sq, by rw [rr.length]; exact hl, ms, ex, r, _, r', s, rr, e, q⟩
    · cases e
  · cases e
theorem mts_nil : PTs X [] (bM tb X.K mYes) := ⟨fun pins s σ H Q I h => by
  obtain ⟨ms, ex, r, M, d, M', m, sl, e, q⟩ := h
  cases e
  exact pts_nil.run pins s σ H Q I (q H (Ext.refl H) m)⟩
theorem mts_one (h : PT X c (bM tb X.K fb)) : PTs X [c] (bM tb X.K fb) := pts_one h

/-- one more list that is being made -/
theorem RV.lock {p : Addr} {v : V} {d : D} (m : RM tb K H ms ex M) (hp : H p = none) (x : Ext ms H H') (r : RV K H ms ex v d) : RV K H' ms (p :: ex) v d :=
  RV.mono (fun _ _ z => z) (fun a o e => ⟨id, fun z => by
    rcases List.mem_cons.mp z with z | z
    · rw [z, hp] at e
      cases e
    · exact .inr z⟩) (fun _ z => m.lst z) (fun b o q n _ t => x b o q n t) r
theorem Sl.lock {p : Addr} {σ : L2.St} {r : En} (m : RM tb K H ms ex M) (hp : H p = none) (x : Ext ms H H') (s : Sl K H ms ex σ r) : Sl K H' ms (p :: ex) σ r :=
  ⟨s.len, fun i d e => by
    obtain ⟨v, h1, h2⟩ := s.at_ i d e
    exact ⟨v, h1, h2.lock m hp x⟩⟩
theorem Ext.grow {p : Addr} {o : HO} (x : Ext ms H H') (hp : H p = none) : Ext ms H (upd H' p o) := by
  have ne : ∀ b u, H b = some u → b ≠ p := fun b u e z => by
    rw [z, hp] at e
    cases e
  exact ⟨fun b u e nb t => (upd_ne (ne b u e)).trans (x b u e nb t), fun b ps e nb => (x.tab b ps e nb).elim fun ps' h => ⟨ps', (upd_ne (ne b _ e)).trans h⟩⟩
theorem Raw.more {p a : Addr} {d : D} {H' : Hp} (m : RM tb K H ms ex M) (hp : H p = none) (sm : Same H H') (h : Raw K H ms ex a d) : Raw K H' ms (p :: ex) a d :=
  h.of (fun _ q _ => sm _ _ q) fun r => RVs.mono (fun _ _ z => z) (fun a o e => ⟨id, fun z => by
    rcases List.mem_cons.mp z with z | z
    · rw [z, hp] at e
      cases e
    · exact .inr z⟩) (fun _ z => m.lst z) (fun b o q n _ _ => sm b o q) r
theorem lock_newO {p : Addr} {o : HO} (m : RM tb K H ms ex M) (hp : H p = none) (t : Thing (upd H p o) p) : RM tb K (upd H p o) ms (p :: ex) M := by
  have sm := same_new (o := o) hp
  obtain ⟨n1, n2⟩ := fresh_ms m hp
  refine ⟨m.len, m.nd, fun n a ds h1 h2 => (m.at_ n a ds h1 h2).more m hp sm, fun b hb => ?_, fun b hb => ?_⟩
  · rcases List.mem_cons.mp hb with hb | hb
    · subst hb
      exact ⟨n1, t⟩
    · exact ⟨(m.exs b hb).1, (m.exs b hb).2.same sm⟩
  · obtain ⟨ps, q, y⟩ := m.tbs b hb
    exact ⟨ps, sm _ _ q, y⟩
theorem lock_new {p : Addr} (m : RM tb K H ms ex M) (hp : H p = none) : RM tb K (upd H p (.lst [])) ms (p :: ex) M := lock_newO m hp (.inl ⟨_, upd_same⟩)
theorem lock_growO {p : Addr} {o : HO} (m : RM tb K H ms (p :: ex) M) (t : Thing (upd H p o) p) : (∀ {v d}, RV K H ms (p :: ex) v d → RV K (upd H p o) ms (p :: ex) v d) ∧ RM tb K (upd H p o) ms (p :: ex) M := by
  have k : ∀ b u, H b = some u → b ∉ ms → b ∉ p :: ex → (∀ ps, u ≠ .tbl ps) → upd H p o b = some u := fun b u q _ nb _ => by
    have : b ≠ p := fun z => nb (by rw [z]; exact List.mem_cons_self)
    rw [upd_ne this]
    exact q
  have h1 : ∀ {v d}, RV K H ms (p :: ex) v d → RV K (upd H p o) ms (p :: ex) v d := fun {v d} r => RV.mono (fun _ _ z => z) (fun _ _ _ => ⟨id, .inr⟩) (fun _ z => m.lst z) k r
  have h2 : ∀ {v d}, RVs K H ms (p :: ex) v d → RVs K (upd H p o) ms (p :: ex) v d := fun {v d} r => RVs.mono (fun _ _ z => z) (fun _ _ _ => ⟨id, .inr⟩) (fun _ z => m.lst z) k r
  refine ⟨h1, m.len, m.nd, fun n a ds e1 e2 => ?_, fun b hb => ?_, fun b hb => ?_⟩
  · have : a ≠ p := fun z => (m.exs p List.mem_cons_self).1 (z ▸ List.mem_of_getElem? e1)
    exact (m.at_ n a ds e1 e2).of (fun u q _ => by rw [upd_ne this]; exact q) h2
  · obtain ⟨n1, y⟩ := m.exs b hb
    by_cases e : b = p
    · subst e
      exact ⟨n1, t⟩
    · refine ⟨n1, ?_⟩
      unfold Thing
      rw [upd_ne e]
      exact y
  · obtain ⟨ps, q, y⟩ := m.tbs b hb
    have : b ≠ p := fun z => (m.exs p List.mem_cons_self).2.ne (z ▸ q) (fun _ y => by cases y) (fun _ y => by cases y) fun _ y => by cases y
    exact ⟨ps, by rw [upd_ne this]; exact q, y⟩
theorem lock_grow {p : Addr} {vs : List V} (m : RM tb K H ms (p :: ex) M) : (∀ {v d}, RV K H ms (p :: ex) v d → RV K (upd H p (.lst vs)) ms (p :: ex) v d) ∧ RM tb K (upd H p (.lst vs)) ms (p :: ex) M := lock_growO m (.inl ⟨_, upd_same⟩)
theorem lock_out {p : Addr} (m : RM tb K H ms (p :: ex) M) : (∀ {v d}, RVs K H ms (p :: ex) v d → RVs K H ms ex v d) ∧ RM tb K H ms ex M := by
  have h2 : ∀ {v d}, RVs K H ms (p :: ex) v d → RVs K H ms ex v d := fun {v d} r => RVs.mono (fun _ _ z => z) (fun _ _ _ => ⟨id, fun z => .inr (List.mem_cons_of_mem _ z)⟩) (fun _ z => m.lst z) (fun _ _ q _ _ _ => q) r
  exact ⟨h2, m.len, m.nd, fun n a ds e1 e2 => (m.at_ n a ds e1 e2).of (fun _ q _ => q) h2, fun b hb => m.exs b (List.mem_cons_of_mem _ hb), m.tbs⟩
theorem lock_end {p : Addr} {vs : List V} {ds : List D} (m : RM tb K H ms (p :: ex) M) (hn : p ∉ ex) (e : H p = some (.lst vs)) (r : RVs K H ms (p :: ex) vs ds) : RM tb K H ms ex M ∧ RV K H ms ex (.ref p) (.lst ds) := by
  obtain ⟨h2, m2⟩ := lock_out m
  exact ⟨m2, .lst e (m.exs p List.mem_cons_self).1 hn (h2 r)⟩
theorem lc_rd {J : It} {σ : L2.St} {r : En} {xs ys : List D} {Q : VK} (m : RM tb K H ms ex M) (s : Sl K H ms ex σ r) (hl : xs.length ≤ 1000) (e : lcD ft fb fe (wipeD r vs) xs M = some (ys, M'))
    (q : ∀ H' v, Ext ms H H' → RM tb K H' ms ex M' → RV K H' ms ex v (.lst ys) → Q v H')
    (hgo : ∀ (i : Nat) (H' : Hp) (d : D), Ext ms H H' → xs[i]? = some d → J.go i H' ∧ ∀ x H2, J.yld i H' x H2 → H2 = H' ∧ RV K H ms ex x d) (hst : ∀ H', Ext ms H H' → J.stop xs.length H') :
    ∀ D, H D = none → ∃ W : Nat → Nat → Hp → Prop, (∃ k, W 0 k (upd H D (.lst []))) ∧ ∀ i k H', W i k H' →
      (J.stop i H' ∧ Q (.ref D) H') ∨ (J.go i H' ∧ ∃ Nx : Hp → Prop, (∀ H2, Nx H2 → ∃ k', k' < k ∧ W (i + 1) k' H2) ∧ ∀ x H2, J.yld i H' x H2 → gW K vs ft x (L2.wipe σ vs) H2 fun σ2 H3 => L2.wipe σ2 vs = L2.wipe σ vs ∧ bM tb K fb σ2 H3 fun b H4 =>
        if b = true then eM tb K fe σ2 H4 fun y H5 => ∃ acc, H5 D = some (.lst acc) ∧ acc.length < sizeLine ∧ Nx (upd H5 D (.lst (acc ++ [y]))) else Nx H4) := by
  intro p hp
  obtain ⟨np1, np2⟩ := fresh_ms m hp
  have ww : L2.wipe (L2.wipe σ vs) vs = L2.wipe σ vs := by
    have gen : ∀ (us : List Nat) (σ : L2.St), (∀ i ∈ us, i ∈ vs) → L2.wipe (L2.wipe σ us) vs = L2.wipe σ vs := fun us => by
      induction us with
      | nil => intro σ _; rfl
      | cons u us ih =>
        intro σ hu
        show L2.wipe ((L2.wipe σ us).set u none) vs = _
        rw [wipe_same _ _ _ _ (hu u List.mem_cons_self)]
        exact ih σ fun i hi => hu i (List.mem_cons_of_mem _ hi)
    exact gen vs σ fun _ h => h
  let W : Nat → Nat → Hp → Prop := fun i k H2 => k = xs.length - i ∧ i ≤ xs.length ∧ ∃ Mi aV aD rest, Ext ms H H2 ∧ RM tb K H2 ms (p :: ex) Mi ∧ H2 p = some (.lst aV) ∧ RVs K H2 ms (p :: ex) aV aD ∧ aV.length ≤ i ∧
    lcD ft fb fe (wipeD r vs) (xs.drop i) Mi = some (rest, M') ∧ aD ++ rest = ys
  refine ⟨W, ⟨xs.length, by omega, Nat.zero_le _, M, [], [], ys, Ext.of (same_new hp), lock_new m hp, upd_same, .nil, Nat.le_refl _, e, rfl⟩, ?_⟩
  rintro i k H2 ⟨hk, hi, Mi, aV, aD, rest, x2, m2, ep, ra, hal, ee, hy⟩
  by_cases hlt : i < xs.length
  · obtain ⟨hg, hyl⟩ := hgo i H2 xs[i] x2 (List.getElem?_eq_getElem hlt)
    rw [List.drop_eq_getElem_cons hlt] at ee
    unfold lcD at ee
    split at ee
    · rename_i r2 h2
      refine .inr ⟨hg, W (i + 1) (xs.length - (i + 1)), fun H' hN => ⟨xs.length - (i + 1), by omega, hN⟩, fun x H3 hx => ?_⟩
      obtain ⟨eH, rv⟩ := hyl x H3 hx
      subst eH
      have rv' := rv.lock m hp x2
      have s2 : Sl K H3 ms (p :: ex) (L2.wipe σ vs) (wipeD r vs) := (s.wipe vs).lock m hp x2
      refine ⟨ms, p :: ex, _, xs[i], r2, s2, rv', h2, fun σ2 s3 w3 => ⟨w3.trans ww, ?_⟩⟩
      split at ee
      · rename_i M1 h3
        refine bM.use m2 s3 h3 fun H4 x4 m4 s4 => iteT ?_
        split at ee
        · rename_i y M2 h4
          refine eM.use m4 s4 h4 fun H5 v5 x5 m5 s5 r5 => ?_
          have ep5 : H5 p = some (.lst aV) := x5 p _ (x4 p _ ep np1 fun _ z => by cases z) np1 fun _ z => by cases z
          split at ee
          · rename_i zs M3 h5
            cases ee
            have x25 := (x2.trans x4).trans x5
            obtain ⟨lg, mg⟩ := lock_grow (vs := aV ++ [v5]) m5
            refine ⟨aV, ep5, small1000 (by omega), rfl, hlt, M2, aV ++ [v5], aD ++ [y], zs, x25.grow hp, mg, upd_same, ?_, ?_, h5, ?_⟩
            · have ra5 := (ra.ext m2 x4).ext m4 x5
              have : ∀ {v : List V} {d : List D}, RVs K H5 ms (p :: ex) v d → RVs K (upd H5 p (.lst (aV ++ [v5]))) ms (p :: ex) v d := fun {v d} h => by
                induction d generalizing v with
                | nil => cases h; exact .nil
                | cons d ds ih =>
                  cases h with
                  | cons h1 h2 => exact .cons (lg h1) (ih h2)
              exact (this ra5).append (.cons (lg r5) .nil)
            · rw [List.length_append]
              show aV.length + 1 ≤ i + 1
              omega
            · rw [List.append_assoc]
              exact hy
          · cases ee
        · cases ee
      · rename_i M1 h3
        refine bM.use m2 s3 h3 fun H4 x4 m4 s4 => iteF ?_
        exact ⟨rfl, hlt, M1, aV, aD, rest, x2.trans x4, m4, x4 p _ ep np1 (fun _ z => by cases z), ra.ext m2 x4, by omega, ee, hy⟩
      · cases ee
    · cases ee
  · have ei : i = xs.length := by omega
    subst ei
    rw [List.drop_length] at ee
    cases ee
    rw [List.append_nil] at hy
    subst hy
    obtain ⟨m3, r3⟩ := lock_end m2 np2 ep ra
    exact .inl ⟨hst H2 x2, q H2 _ x2 m3 r3⟩

theorem itt_go0 {vs : List V} {ds : List D} {q : Addr} (m : RM tb K H ms ex M) (sq : SqT K H q vs) (rr : RVs K H ms ex vs ds) (i : Nat) (H' : Hp) (d : D) (x : Ext ms H H') (hd : ds[i]? = some d) :
    (Itt K q).go i H' ∧ ∀ v H2, (Itt K q).yld i H' v H2 → H2 = H' ∧ RV K H ms ex v d := by
  have sq' : SqT K H' q vs := SqT.stay (ms := ms) (ex := ex) (fun _ z => m.lst z) (fun b o e n _ t => x b o e n t) sq
  obtain ⟨v0, h0, rv0⟩ := rr.get hd
  refine ⟨⟨vs, v0, sq', h0⟩, fun v H2 hy => ⟨hy.1, ?_⟩⟩
  have := hy.2 vs sq'
  rw [h0] at this
  cases this
  exact rv0
theorem itl_go0 {vs : List V} {ds : List D} {q : Addr} (m : RM tb K H ms ex M) (sq : H q = some (.lst vs)) (nq : q ∉ ms) (rr : RVs K H ms ex vs ds) (i : Nat) (H' : Hp) (d : D) (x : Ext ms H H') (hd : ds[i]? = some d) :
    (Itl K q).go i H' ∧ ∀ v H2, (Itl K q).yld i H' v H2 → H2 = H' ∧ RV K H ms ex v d := by
  have sq' : SqL K H' q vs := SqL.of (x q _ sq nq fun _ z => by cases z)
  obtain ⟨v0, h0, rv0⟩ := rr.get hd
  refine ⟨⟨vs, v0, sq', h0⟩, fun v H2 hy => ⟨hy.1, ?_⟩⟩
  have := hy.2 vs sq'
  rw [h0] at this
  cases this
  exact rv0
theorem itr_go0 {lo : Int} {n : Nat} (i : Nat) (H' : Hp) (d : D) (hd : (rangeD lo n)[i]? = some d) :
    (Itr lo n).go i H' ∧ ∀ v H2, (Itr lo n).yld i H' v H2 → H2 = H' ∧ RV K H ms ex v d := by
  obtain ⟨h1, h2⟩ := rangeD_get hd
  refine ⟨h1, fun v H2 hy => ⟨hy.1, ?_⟩⟩
  rw [hy.2, h2]
  exact .int _
theorem mt_lcT {σ : L2.St} {Q : VK} (h : eM tb K (mLc itemsT f ft fb fe vs) σ H Q) : tLc (iTup K (eM tb K f)) (gW K vs ft) (bM tb K fb) (eM tb K fe) vs σ H Q := by
  obtain ⟨ms, ex, r, M, o, M', m, s, e, q⟩ := h
  unfold mLc at e
  split at e
  · rename_i d M1 h1
    split at e
    · rename_i xs h2
      split at e
      · rename_i hl
        split at e
        · rename_i ys M2 h3
          cases e
          refine eM.use m s h1 fun H1 v1 x1 m1 s1 r1 => ?_
          unfold itemsT at h2
          split at h2
          · cases h2
            cases r1 with
            | tup sq rr => exact ⟨_, rfl, ⟨_, SqT.of sq⟩, lc_rd m1 s1 hl h3 (fun H2 v x2 m2 r2 => q H2 v (x1.trans x2) m2 r2) (fun i H' d x hd => itt_go0 m1 (SqT.of sq) rr i H' d x hd) (fun H' x => itt_stop m1 (SqT.of sq) rr H' x)⟩
          · cases h2
        · cases e
      · cases e
    · cases e
  · cases e
theorem mt_lcL {σ : L2.St} {Q : VK} (h : eM tb K (mLc itemsL f ft fb fe vs) σ H Q) : tLc (iList K (eM tb K f)) (gW K vs ft) (bM tb K fb) (eM tb K fe) vs σ H Q := by
  obtain ⟨ms, ex, r, M, o, M', m, s, e, q⟩ := h
  unfold mLc at e
  split at e
  · rename_i d M1 h1
    split at e
    · rename_i xs h2
      split at e
      · rename_i hl
        split at e
        · rename_i ys M2 h3
          cases e
          refine eM.use m s h1 fun H1 v1 x1 m1 s1 r1 => ?_
          unfold itemsL at h2
          split at h2
          · cases h2
            cases r1 with
            | lst sq n1 n2 rr => exact ⟨_, rfl, ⟨_, SqL.of sq⟩, lc_rd m1 s1 hl h3 (fun H2 v x2 m2 r2 => q H2 v (x1.trans x2) m2 r2) (fun i H' d x hd => itl_go0 m1 sq n1 rr i H' d x hd) (fun H' x => itl_stop sq n1 rr H' x)⟩
          · cases h2
        · cases e
      · cases e
    · cases e
  · cases e
theorem mt_lcR1 {σ : L2.St} {Q : VK} (h : eM tb K (mLcR rng1 fa ft fb fe vs) σ H Q) : tLc (iRng1 (aM tb K fa)) (gW K vs ft) (bM tb K fb) (eM tb K fe) vs σ H Q := by
  obtain ⟨ms, ex, r, M, o, M', m, s, e, q⟩ := h
  unfold mLcR at e
  split at e
  · rename_i ds M1 h1
    split at e
    · rename_i i j h2
      split at e
      · rename_i hl
        split at e
        · rename_i ys M2 h3
          cases e
          refine aM.use m s h1 fun H1 v1 x1 m1 s1 r1 => ?_
          unfold rng1 at h2
          split at h2
          · split at h2
            · rename_i hb2
              cases h2
              cases r1 with
              | cons r1 rr =>
                cases rr
                cases r1
                refine ⟨j, rfl, by omega, by omega, ?_⟩
                have e0 : (j - 0).toNat = j.toNat := by simp
                rw [e0] at h3 hl
                exact lc_rd m1 s1 (by rw [rangeD_len]; exact hl) h3 (fun H2 v x2 m2 r2 => q H2 v (x1.trans x2) m2 r2) (fun i H' d x hd => itr_go0 i H' d hd) (fun H' x => by rw [rangeD_len]; exact Nat.le_refl _)
            · cases h2
          · cases h2
        · cases e
      · cases e
    · cases e
  · cases e
theorem mt_lcR2 {σ : L2.St} {Q : VK} (h : eM tb K (mLcR rng2 fa ft fb fe vs) σ H Q) : tLc (iRng2 (aM tb K fa)) (gW K vs ft) (bM tb K fb) (eM tb K fe) vs σ H Q := by
  obtain ⟨ms, ex, r, M, o, M', m, s, e, q⟩ := h
  unfold mLcR at e
  split at e
  · rename_i ds M1 h1
    split at e
    · rename_i i j h2
      split at e
      · rename_i hl
        split at e
        · rename_i ys M2 h3
          cases e
          refine aM.use m s h1 fun H1 v1 x1 m1 s1 r1 => ?_
          unfold rng2 at h2
          split at h2
          · split at h2
            · rename_i hb2
              cases h2
              cases r1 with
              | cons r1 rr =>
                cases rr with
                | cons r2 rr =>
                  cases rr
                  cases r1
                  cases r2
                  refine ⟨i, j, rfl, by omega, ?_⟩
                  exact lc_rd m1 s1 (by rw [rangeD_len]; exact hl) h3 (fun H2 v x2 m2 r2 => q H2 v (x1.trans x2) m2 r2) (fun i H' d x hd => itr_go0 i H' d hd) (fun H' x => by rw [rangeD_len]; exact Nat.le_refl _)
            · cases h2
          · cases h2
        · cases e
      · cases e
    · cases e
  · cases e

/-! ### the rules of comprehensions, over any source -/
theorem me_lc {iter elt : Expr} {ifs : List Expr} {scope : Scope} {own : List (Str × Nat)} {wi : TI} {F : FE} (hr : ∀ σ H Q, eM tb X.K F σ H Q → tLc wi (gW X.K (own.map (·.2)) ft) (bM tb X.K fb) (eM tb X.K fe) (own.map (·.2)) σ H Q) (hc : X.calm = true) (hN : X.N.Nodup) (hi : PI X tg iter wi) (ok : BlkOk X.N X.env.scope scope own)
    (hg : ∀ (s : Shared) (H : Hp) (C : Addr) (cl : List (Str × Addr)) (fp : List Addr), PG (X.blk s H scope (compEnvC scope cl C X.env) fp) tg (gW X.K (own.map (·.2)) ft)) (ht : ∀ (s : Shared) (H : Hp) (C : Addr) (cl : List (Str × Addr)) (fp : List Addr), PTs (X.blk s H scope (compEnvC scope cl C X.env) fp) ifs (bM tb X.K fb))
    (he : ∀ (s : Shared) (H : Hp) (C : Addr) (cl : List (Str × Addr)) (fp : List Addr), PE (X.blk s H scope (compEnvC scope cl C X.env) fp) elt (eM tb X.K fe)) (hs : ∀ x, foldedSetIterable iter X.env x = Pure.pure x := by intro _; rfl) :
    PE X (.ListComp elt [⟨tg, iter, ifs, 0⟩] scope pos) (eM tb X.K F) := (pe_lc hc hN hi ok hg ht he hs).weak hr
theorem ms_setLc {i : Nat} {y : Str} {py spos : Pos} {iter elt : Expr} {ifs : List Expr} {scope : Scope} {own : List (Str × Nat)} {wi : TI} {F : FE} (hr : ∀ σ H Q, eM tb X.K F σ H Q → tLc wi (gW X.K (own.map (·.2)) ft) (bM tb X.K fb) (eM tb X.K fe) (own.map (·.2)) σ H Q)
    (hc : X.calm = true) (hN : X.N.Nodup) (hy : X.N[i]? = some y) (hyl : X.env.scope.names.lookup y = some .local) (hsw : swapsWith (.ListComp elt [⟨tg, iter, ifs, 0⟩] scope pos) (some (.Name y py)) spos.line X.env = Pure.pure true) (hi : PI X tg iter wi) (ok : BlkOk X.N X.env.scope scope own)
    (hg : ∀ (s : Shared) (H : Hp) (C : Addr) (cl : List (Str × Addr)) (fp : List Addr), PG (X.blk s H scope (compEnvC scope cl C X.env) fp) tg (gW X.K (own.map (·.2)) ft)) (ht : ∀ (s : Shared) (H : Hp) (C : Addr) (cl : List (Str × Addr)) (fp : List Addr), PTs (X.blk s H scope (compEnvC scope cl C X.env) fp) ifs (bM tb X.K fb))
    (he : ∀ (s : Shared) (H : Hp) (C : Addr) (cl : List (Str × Addr)) (fp : List Addr), PE (X.blk s H scope (compEnvC scope cl C X.env) fp) elt (eM tb X.K fe)) (hs : ∀ x, foldedSetIterable iter X.env x = Pure.pure x := by intro _; rfl) :
    PS X (.Assign [.Name y py] (.ListComp elt [⟨tg, iter, ifs, 0⟩] scope pos) spos) (sM tb X.K (mSet i F)) := (ps_setLc hc hN hy hyl hsw hi ok hg ht he hs).weak fun E σ H h => hr σ H _ (mt_set h)

/-! ### a def -/
theorem start_sl {N : List Str} {v : List V} {ds : List D} (r : RVs K H ms ex v ds) : Sl K H ms ex (L2.start N v) (startD N.length ds) := by
  have hl := r.length
  refine ⟨by simp [L2.start, startD, hl], fun i d e => ?_⟩
  unfold startD at e
  by_cases hi : i < ds.length
  · rw [List.getElem?_append_left (by simpa using hi), List.getElem?_map] at e
    cases h : ds[i]? with
    | none => rw [h] at e; cases e
    | some d' =>
      rw [h] at e
      cases e
      obtain ⟨w, h1, h2⟩ := r.get h
      refine ⟨w, ?_, h2⟩
      unfold L2.start
      rw [List.getElem?_append_left (by simpa [hl] using hi), List.getElem?_map, h1]
      rfl
  · rw [List.getElem?_append_right (by simpa using hi), List.getElem?_replicate] at e
    split at e <;> cases e
variable {P : Program} {w : World} {mg : Str → Option Value} {base : Heap}
theorem m_fn {x qual : Str} {st : Stmt} {q : Addr} {fd : FuncData} {N ps : List Str} {k : Nat} (F : Fun K x qual st q fd) (S : FnScope N ps (defScope st))
    (hb : ∀ (cdv : Value) (A : Around) (outer : List Env) (s : Shared) (H : Hp) (E : XK), Room k (A.deeper (envOfC qual (defScope st) s.heap.objs.size q cdv)) →
      PSs (cxOf CX0 P w K mg base N qual (defScope st) q cdv A outer s H E).nox (defBody st) (sM tb K fs)) : FnOk P w K mg base CX0 (k + 1) q fd ps (spM tb K ps.length (mFun N.length fs)) := by
  refine F.ok S (fun vs H Q E h => ?_) (fun cdv A outer s H vs Q E hr h => ⟨sM tb K fs, hb cdv A outer s H E hr, ?_⟩)
  · obtain ⟨ms, ex, M, ds, d, M', m, r, hl, _⟩ := h
    rw [r.length, hl]
  · obtain ⟨ms, ex, M, ds, d, M', m, r, hl, e, hq⟩ := h
    unfold mFun at e
    split at e
    · rename_i d1 M1 h1
      cases e
      exact sM.use m (start_sl r) h1 fun H1 x1 m1 v rv => hq H1 v x1 m1 rv
    · rename_i r1 M1 h1
      cases e
      exact sM.use m (start_sl r) h1 fun H1 x1 m1 σ' _ => hq H1 .non x1 m1 .non
    · cases e

/-! ### a def that hands back a new list; a name that holds it and may change it -/
abbrev FL := List D → MM → Option (List D × MM)
def spF (tb : List Addr) (K : PySem.W.Frag) (n : Nat) (g : FL) : Sp := fun vs H Q _ => ∃ ms ex M ds ys M', RM tb K H ms ex M ∧ RVs K H ms ex vs ds ∧ ds.length = n ∧ g ds M = some (ys, M') ∧
  ∀ H' p xs, Ext ms H H' → RM tb K H' ms ex M' → H p = none → H' p = some (.lst xs) → RVs K H' ms ex xs ys → Q (.ref p) H'
def mFunF (n : Nat) (f : FS) (fa : FA) : FL := fun ds M => match f (startD n ds) M with
  | some (.nx r, M1) => fa r M1
  | _ => none
theorem m_fnF {x qual : Str} {st s1 : Stmt} {p1 p2 : Pos} {q : Addr} {fd : FuncData} {N ps : List Str} {k : Nat} (F : Fun K x qual st q fd) (S : FnScope N ps (defScope st)) (hbd : defBody st = [s1, .Return (some (.List es p1)) p2]) (hn : ∀ r M ds M', fa r M = some (ds, M') → ds.length ≤ 1000)
    (hb : ∀ (cdv : Value) (A : Around) (outer : List Env) (s : Shared) (H : Hp) (E : XK), Room k (A.deeper (envOfC qual (defScope st) s.heap.objs.size q cdv)) →
      PS (cxOf CX0 P w K mg base N qual (defScope st) q cdv A outer s H E).nox s1 (sM tb K fs) ∧ PA (cxOf CX0 P w K mg base N qual (defScope st) q cdv A outer s H E).nox es (aM tb K fa)) : FnOk P w K mg base CX0 (k + 1) q fd ps (spF tb K ps.length (mFunF N.length fs fa)) := by
  refine F.ok S (fun vs H Q E h => ?_) (fun cdv A outer s H vs Q E hr h => ?_)
  · obtain ⟨ms, ex, M, ds, d, M', m, r, hl, _⟩ := h
    rw [r.length, hl]
  · obtain ⟨h1, h2⟩ := hb cdv A outer s H E hr
    refine ⟨_, by rw [hbd]; exact pss_cons h1 (pss_one (ps_ret (pe_lst h2))), ?_⟩
    obtain ⟨ms, ex, M, ds, ys, M', m, r, hl, e, hq⟩ := h
    unfold mFunF at e
    split at e
    · rename_i r1 M1 g1
      refine sM.use m (start_sl r) g1 fun H1 x1 m1 σ1 s1 => ?_
      refine aM.use m1 s1 e fun H2 v2 x2 m2 s2 r2 => ⟨r2.small (hn _ _ _ _ e), fun p hp => ?_⟩
      have hp0 : H p = none := (x1.trans x2).gone (fresh_ms m2 hp).1 hp
      have sm := same_new (o := HO.lst v2) hp
      exact hq _ p v2 ((x1.trans x2).trans (Ext.of sm)) (m2.same sm) hp0 upd_same (r2.ext m2 (Ext.of sm))
    · cases e
def plainD : D → Bool
  | .non => true
  | .bl _ => true
  | .int _ => true
  | .str _ => true
  | _ => false
/-- x = f(..), f hands back a new list, no other list may change so far; the rest of the block -/
def mMu (i : Nat) (g : FL) (fa : FA) (f : FS) : FS := fun r M => match fa r M with
  | some (ds, []) => match g ds [] with
    | some (ys, []) => if ys.all plainD then match f (r.set i (some (.mu 0))) [.lst ys] with
        | some (.rt d, _) => if plainD d then some (.rt d, []) else none
        | _ => none
      else none
    | _ => none
  | _ => none
/-- the list at p, just made, may change from now on -/
theorem push_rv {p : Addr} (m0 : RM tb K H ms ex M) (hp : H p = none) (x : Ext ms H H') {v : V} {d : D} (rv : RV K H ms ex v d) : RV K H' (ms ++ [p]) ex v d := by
  refine RV.mono (fun n a e => ?_) (fun a o e => ⟨fun z => ?_, Or.inr⟩) (fun _ z => m0.lst z) (fun b o q n _ t => x b o q n t) rv
  · rw [List.getElem?_append_left (List.getElem?_eq_some_iff.mp e).1]
    exact e
  · rcases List.mem_append.mp z with z | z
    · exact z
    · have : a = p := by simpa using z
      rw [this, hp] at e
      cases e
theorem plain_rv {v : V} {d : D} (h : plainD d = true) (rv : RV K H ms' ex v d) : RV K H' ms ex v d := by
  cases rv with
  | non => exact .non
  | bl b => exact .bl b
  | int i => exact .int i
  | str z => exact .str z
  | tup _ _ => cases h
  | lst _ _ _ _ => cases h
  | fz _ _ => cases h
  | mu _ => cases h
  | dk _ _ _ _ _ => cases h
  | dt _ _ _ _ _ => cases h
  | ins _ _ _ _ _ => cases h
  | ct _ _ => cases h
theorem plain_rvs : ∀ {v : List V} {d : List D}, d.all plainD = true → RVs K H ms' ex v d → RVs K H' ms ex v d
  | _, _, _, .nil => .nil
  | _, _, h, .cons a b => .cons (plain_rv (Bool.and_eq_true_iff.mp h).1 a) (plain_rvs (Bool.and_eq_true_iff.mp h).2 b)
theorem mss_mu {CX : CXT} {k n i : Nat} {fA : Addr} {fd : FuncData} {ps : List Str} {x y : Str} {py p pos' : Pos} {gl : FL} {E : XK} (F : FnOk X.prog X.w X.K X.mg X.base CX k fA fd ps (spF tb X.K n gl)) (hr : Room k X.A) (hgl : Gl X x) (hm : X.mg x = some (.ref fA)) (hk : PySem.W.keepIn X.K (.ref fA) = true)
    (hb : Binds X.K fd ps []) (hx : Passes CX X E) (ha : PA X (a :: es) (aM tb X.K fa)) (hl : ∀ r M ds M', fa r M = some (ds, M') → ds.length = n)
    (hN : X.N.Nodup) (hi : X.N[i]? = some y) (hly : Loc X.env.scope y) (hrest : PSs X sts (sM tb X.K fs))
    (hf : X.fn y = true ∨ X.env.scope.names.lookup y = some .local := by first | exact .inl rfl | exact .inr rfl | assumption) (hdb : (x == ("__debug__" : Str)) = false := by decide)
    (he : starEach (a :: es) X.env = (false, eval a X.env) :: starEach es X.env := by rfl) (hpl : (backTo pos (starEach es X.env)).any (·.1) = false := by rfl)
    (hsw : swapsWithSole [.Name y py] (.Call (.Name x p) (a :: es) [] pos) pos'.line X.env = Pure.pure false := by rfl) (hsw2 : swappedStores [.Name y py] (.Call (.Name x p) (a :: es) [] pos) X.env = Pure.pure none := by rfl)
    (h1 : (assignEach [.Name y py] X.env).map (·.2) = [assign (.Name y py) X.env] := by rfl) :
    PSs X (.Assign [.Name y py] (.Call (.Name x p) (a :: es) [] pos) pos' :: sts) (sM tb X.K (mMu i gl fa fs)) :=
  (pss_cons (ps_asg (pe_call F hr hgl hm hk hb .nil hx ha hdb he hpl) (pg_name hN hi hly hf) hsw hsw2 h1) hrest).weak fun EE σ H h => by
    obtain ⟨ms, ex, r, M, o, M', m, s, e, q⟩ := h
    unfold mMu at e
    split at e
    · rename_i ds h1
      split at e
      · rename_i ys h2
        split at e
        · rename_i hpl2
          split at e
          · rename_i d M3 h3
            split at e
            · rename_i hp
              cases e
              refine aM.use m s h1 fun H1 v1 x1 m1 s1 r1 => ?_
              refine ⟨ms, ex, [], ds, ys, [], m1, ?_, hl _ _ _ _ h1, h2, fun H2 a2 xs x2 m2 n2 e2 r2 => ?_⟩
              · rw [List.append_nil]
                exact r1
              · have hms : ms = [] := List.eq_nil_of_length_eq_zero m2.len
                subst hms
                obtain ⟨na1, na2⟩ := fresh_ms m1 n2
                refine sM.use (ms := [a2]) (ex := ex) (M := [.lst ys]) (r := r.set i (some (.mu 0))) ⟨rfl, by simp, fun n a ds' e1 e3 => ?_, fun b hb => ?_, m2.tbs⟩ ?_ h3 fun H3 x3 m3 v3 rv3 => ?_
                · cases n with
                  | zero =>
                    cases e1
                    cases e3
                    exact .lst e2 (plain_rvs hpl2 r2)
                  | succ n => simp at e1
                · refine ⟨fun z => ?_, (m2.exs b hb).2⟩
                  have : b = a2 := by simpa using z
                  exact na2 (this ▸ hb)
                · refine Sl.set ⟨s1.len, fun j d' ej => ?_⟩ (.mu rfl)
                  obtain ⟨w, g1, g2⟩ := s1.at_ j d' ej
                  exact ⟨w, g1, push_rv (ms := []) m1 n2 x2 g2⟩
                · have out : ∀ b o, H b = some o → b ∉ [a2] := fun b o eb z => by
                    have z : b = a2 := by simpa using z
                    have := x1.gone (ms := []) (by simp) n2
                    rw [← z, eb] at this
                    cases this
                  refine q H3 ⟨fun b o eb nb t => x3 b o (x2 b o (x1 b o eb (by simp) t) (by simp) t) (out b o eb) t, fun b ps eb nb => ?_⟩ ⟨rfl, by simp, fun n a ds' e1 _ => by simp at e1, fun b hb => ⟨by simp, (m3.exs b hb).2⟩, m3.tbs⟩ v3 (plain_rv hp rv3)
                  obtain ⟨p1, y1⟩ := x1.tab b ps eb (by simp)
                  obtain ⟨p2, y2⟩ := x2.tab b p1 y1 (by simp)
                  exact x3.tab b p2 y2 (out b _ eb)
            · cases e
          · cases e
        · cases e
      · cases e
    · cases e
end
end NL
namespace NL
open PySem PySem.Spec PyProof.Rows L2
section
variable {X : Cx} {pos : Pos} {a b c : Expr} {fa : FA}
theorem ms_par2 {i j : Nat} {x y : Str} {px py pt : Pos} {kt k2 pt2} (hc : X.calm = true) (hN : X.N.Nodup) (hi : X.N[i]? = some x) (hj : X.N[j]? = some y) (hij : i ≠ j)
    (hx : X.env.scope.names.lookup x = some .local) (hy : X.env.scope.names.lookup y = some .local) (ha : PA X [a, b] (aM tb X.K fa))
    (hw : swappedStores [.Tuple [.Name x px, .Name y py] kt pt] (.Tuple [a, b] k2 pt2) X.env = Pure.pure (some [x, y]))
    (hs : swapsWithSole [.Tuple [.Name x px, .Name y py] kt pt] (.Tuple [a, b] k2 pt2) pos.line X.env = Pure.pure false := by rfl) :
    PS X (.Assign [.Tuple [.Name x px, .Name y py] kt pt] (.Tuple [a, b] k2 pt2) pos) (sM tb X.K (mPar2 i j fa)) := (ps_par hc hN hi hj hij hx hy ha hw hs).weak fun _ _ _ h => mt_par2 h
theorem ms_par3 {i j l : Nat} {x y z : Str} {px py pz pt : Pos} {kt k2 pt2} (hc : X.calm = true) (hN : X.N.Nodup) (hi : X.N[i]? = some x) (hj : X.N[j]? = some y) (hl : X.N[l]? = some z) (hij : i ≠ j) (hil : i ≠ l) (hjl : j ≠ l)
    (hx : X.env.scope.names.lookup x = some .local) (hy : X.env.scope.names.lookup y = some .local) (hz : X.env.scope.names.lookup z = some .local) (ha : PA X [a, b, c] (aM tb X.K fa))
    (hw : swappedStores [.Tuple [.Name x px, .Name y py, .Name z pz] kt pt] (.Tuple [a, b, c] k2 pt2) X.env = Pure.pure (some [x, y, z]))
    (hs : swapsWithSole [.Tuple [.Name x px, .Name y py, .Name z pz] kt pt] (.Tuple [a, b, c] k2 pt2) pos.line X.env = Pure.pure false := by rfl) :
    PS X (.Assign [.Tuple [.Name x px, .Name y py, .Name z pz] kt pt] (.Tuple [a, b, c] k2 pt2) pos) (sM tb X.K (mPar3 i j l fa)) := (ps_par3 hc hN hi hj hl hij hil hjl hx hy hz ha hw hs).weak fun _ _ _ h => mt_par3 h
end
theorem room65 {k : Nat} {A : Around} (r : Room k A) : A.units + 65 < cLine := by
  have := r.un
  omega
theorem fn0 {P : Program} {w : World} {K : PySem.W.Frag} {mg : Str → Option Value} {base : Heap} {f : Addr} {fd : FuncData} {ps : List Str} {n : Nat} : FnOk P w K mg base CX0 0 f fd ps (spM tb K n fun _ _ => none) := by
  refine ⟨fun vs H Q E h => ?_, fun A outer s H args us vs Q E hr he hb hv hs => ?_⟩
  · obtain ⟨ms, ex, M, ds, d, M', m, r, hl, e, _⟩ := h
    cases e
  · obtain ⟨ms, ex, M, ds, d, M', m, r, hl, e, _⟩ := hs
    cases e
end NL

/-! HX1: `<` upon two pairs of ints. -/
namespace HX
open PySem PySem.Spec PyProof.Rows L2
/-- the lesser of two pairs -/
def pairLt (i j k l : Int) : Bool := if i = k then decide (j < l) else decide (i < k)
def rLtP (K : PySem.W.Frag) : R2 := fun x y H Q => ∃ p q i j k l, x = .ref p ∧ y = .ref q ∧ SqT K H p [.int i, .int j] ∧ SqT K H q [.int k, .int l] ∧ Q (.bl (pairLt i j k l)) H
theorem two_ints {us : List Value} {i j : Int} (r : Vals [V.int i, V.int j] us) : ∃ t t', us = [.int i t, .int j t'] := by
  cases r with
  | cons a r1 => cases r1 with
    | cons b r2 =>
      cases r2
      obtain ⟨t, rfl⟩ := a
      obtain ⟨t', rfl⟩ := b
      exact ⟨t, t', rfl⟩
theorem eqI (A : Around) (s : Shared) (i k : Int) (t u : Tok) : SeqAt.EqAt A s (.int i t) (.int k u) (decide (i = k)) := by
  have same : (i == k) = decide (i = k) := by
    rw [Bool.eq_iff_iff]
    simp
  exact same ▸ SeqAt.EqAt.int_int i t k u
theorem op_ltP {X : Cx} (room : X.A.units < cLine) : OpR X (compareOp .Lt) (rLtP X.K) := by
  rintro pins s σ H x y v u Q I rx ry ⟨p, q, i, j, k, l, rfl, rfl, hp, hq, hQ⟩
  have ev : v = .ref p := rx
  have eu : u = .ref q := ry
  obtain ⟨us, r1, ip, _⟩ := I.tuple hp
  obtain ⟨ws, r2, iq, _⟩ := I.tuple hq
  obtain ⟨t1, t2, rfl⟩ := two_ints r1
  obtain ⟨t3, t4, rfl⟩ := two_ints r2
  let e : Nat → Bool := fun n => if n = 0 then decide (i = k) else decide (j = l)
  let r : Nat → Bool := fun n => if n = 0 then decide (i < k) else decide (j < l)
  have same : ∀ n (h1 : n < ([Value.int i t1, .int j t2].toArray).size) (h2 : n < ([Value.int k t3, .int l t4].toArray).size), SeqAt.EqAt X.A.in1 s ([Value.int i t1, .int j t2].toArray)[n] ([Value.int k t3, .int l t4].toArray)[n] (e n) := by
    intro n h1 h2
    match n, h1, h2 with
    | 0, _, _ => exact eqI _ _ i k t1 t3
    | 1, _, _ => exact eqI _ _ j l t2 t4
  have less : ∀ n (h1 : n < ([Value.int i t1, .int j t2].toArray).size) (h2 : n < ([Value.int k t3, .int l t4].toArray).size), e n = false → Ob.RcOp .Lt X.A.in1 s ([Value.int i t1, .int j t2].toArray)[n] ([Value.int k t3, .int l t4].toArray)[n] (r n) := by
    intro n h1 h2 _
    match n, h1, h2 with
    | 0, _, _ => exact Ob.RcOp.lt_int i k t1 t3
    | 1, _, _ => exact Ob.RcOp.lt_int j l t2 t4
  have all := Ob.RcOp.tuples_lt ip iq room same less X.prog X.w X.xe (EP X pins σ Q)
  rw [ev, eu]
  refine all ⟨.bl (pairLt i j k l), H, I, ?_, hQ⟩
  have step : Ob.lexAt e r (decide (2 < 2)) 0 2 = pairLt i j k l := by
    have h0 : e 0 = decide (i = k) := rfl
    have h1 : r 0 = decide (i < k) := rfl
    have h2 : e 1 = decide (j = l) := rfl
    have h3 : r 1 = decide (j < l) := rfl
    rw [Ob.lexAt_succ, Ob.lexAt_succ, Ob.lexAt_zero, h0, h1, h2, h3]
    unfold pairLt
    by_cases a : i = k
    · by_cases b : j = l
      · subst b
        simp [a]
      · simp [a, b]
    · simp [a]
  show Value.bool _ = Value.bool _
  exact congrArg Value.bool step
end HX

/-! HX2: a dict comprehension with keys of any sort that a dict is told by (ints and texts, or tuples of them). -/
namespace HX
open PySem PySem.Spec PyProof.Rows L2
/-- what a dict made anew is told by -/
inductive Fresh : HO → Prop
  | k : Fresh (.dK [])
  | t : Fresh (.dT [])
theorem Fresh.okd {P : Program} {w : World} {H : Hp} {o : HO} (f : Fresh o) (h : Heap) (big : sysModules < h.objs.size) : ObjOk P w H (h.push { cls := .type "dict", data := .dict #[] }) h.objs.size o := by
  cases f with
  | k => exact dk_empty h big
  | t => exact dt_empty h big
section
variable {X : Cx} {pins : List (Addr × Obj)} {σ : L2.St} {H : Hp} {s : Shared}
/-- one store of a comprehension -/
theorem put_dict {E : Value → Shared → Prop} {d : Addr} {y z : V} {ky vz : Value} {H' : Hp} {Q : Unit → Shared → Prop} (room : X.A.units + 1 < cLine) (I : Inv X pins σ H s) (g : DPut H d y z H') (r1 : RelV y ky) (r2 : RelV z vz)
    (q : ∀ s', Inv X pins σ H' s' → Q () s') : wpAny (model X.prog X.w) X.A (dictSet d ky vz) Q E s := by
  rcases g with ⟨kvs, k, e, rfl, few, rfl⟩ | ⟨kvs, k, b, e, rfl, eb, few, rfl⟩
  · exact d_dictSet I e few r1 r2 q
  · have eu : ky = Value.ref b := r1
    rw [eu]
    obtain ⟨n1, ns, xs, kt, all⟩ := dt_of I.hok e
    have n2 : xs.length ≤ sizeLine := Paired.length kt ▸ n1
    have n3 : (putK kvs k z).length ≤ sizeLine := by
      have := length_putK kvs k z
      omega
    refine wpAny_dictSet_heap (hsz := n2) (Nat.lt_of_succ_lt room) (key_of I.hok eb) all fun h1 now sb => q _ ?_
    obtain ⟨ob, es, ep, got, c1, c2, c3, _, c5⟩ := now
    have kt' : KT (upd H d (.dT (putK kvs k z))) _ _ := (kt.put k eb r2).keeps fun c ys ec => (upd_ne (ne_of ec e fun z => nomatch z)).trans ec
    exact d_write I (by rw [e]; exact True.intro) sb ⟨ob, got⟩ ⟨n3, ns, _, kt', ob, es, ep, got, c1, c2, c3, c5⟩
end
section
variable {X : Cx}
/-- what a turn asks -/
def turnX (g : TG) (tt : TT) (tk tv : TE) (vs : List Nat) (σ : L2.St) (d : Addr) (x : V) (H : Hp) (Nx : Hp → Prop) : Prop :=
  g x (wipe σ vs) H fun σ2 H2 => wipe σ2 vs = wipe σ vs ∧ tt σ2 H2 fun b H3 =>
    if b = true then tk σ2 H3 fun y H4 => tv σ2 H4 fun z H5 => ∃ H6, DPut H5 d y z H6 ∧ Nx H6 else Nx H3
/-- {k: v for target in iter if ..}: o0 is what the new dict is told by -/
def tDx (o0 : HO) (wi : TI) (g : TG) (tt : TT) (tk tv : TE) (vs : List Nat) : TE := fun σ H Q => wi σ H fun J H1 => ∀ d, H1 d = none → ∃ W : Nat → Nat → Hp → Prop, (∃ m, W 0 m (upd H1 d o0)) ∧
  ∀ i m H, W i m H → (J.stop i H ∧ Q (.ref d) H) ∨ (J.go i H ∧ ∃ Nx : Hp → Prop, (∀ H', Nx H' → ∃ m', m' < m ∧ W (i + 1) m' H') ∧ ∀ x H', J.yld i H x H' → turnX g tt tk tv vs σ d x H' Nx)
/-- the parts of the comprehension, in its own block -/
structure PartsX (X : Cx) (scope : Scope) (tg kx vx : Expr) (ifs : List Expr) (g : TG) (tt : TT) (tk tv : TE) : Prop where
  tg : ∀ (s : Shared) (H : Hp) (C : Addr) (cl : List (Str × Addr)) (fp : List Addr), PG (X.blk s H scope (compEnvC scope cl C X.env) fp) tg g
  ifs : ∀ (s : Shared) (H : Hp) (C : Addr) (cl : List (Str × Addr)) (fp : List Addr), PTs (X.blk s H scope (compEnvC scope cl C X.env) fp) ifs tt
  key : ∀ (s : Shared) (H : Hp) (C : Addr) (cl : List (Str × Addr)) (fp : List Addr), PE (X.blk s H scope (compEnvC scope cl C X.env) fp) kx tk
  val : ∀ (s : Shared) (H : Hp) (C : Addr) (cl : List (Str × Addr)) (fp : List Addr), PE (X.blk s H scope (compEnvC scope cl C X.env) fp) vx tv
theorem pe_dx {o0 : HO} (fr : Fresh o0) {kx vx tg iter : Expr} {ifs : List Expr} {scope : Scope} {own : List (Str × Nat)} {pos : Pos} {wi : TI} {g : TG} {tt : TT} {tk tv : TE} (calm : X.calm = true) (room : X.A.units + 1 < cLine) (nd : X.N.Nodup) (hi : PI X tg iter wi) (ok : BlkOk X.N X.env.scope scope own)
    (pt : PartsX X scope tg kx vx ifs g tt tk tv) (fold : ∀ x, foldedSetIterable iter X.env x = pure x := by intro _; rfl) :
    PE X (.DictComp kx vx [⟨tg, iter, ifs, 0⟩] scope pos) (tDx o0 wi g tt tk tv (own.map (·.2))) := by
  refine ⟨fun pins s σ H Q I h => ?_⟩
  rw [arm_eval_DictComp]
  have clo : ∀ y ∈ scope.names, y.2 = .free → ∃ c, X.env.cells.lookup y.1 = some c := by
    intro y hy e
    rcases ok.free y hy e with a | a
    · exact I.ok.has _ (.inl a)
    · exact I.ok.has _ (.inr a)
  refine wpAny_comprehension_free (use := none) rfl fold (closure_ok clo) ok.kind (fun y hy e => by rw [ok.uniq y hy, e]) ?_
  refine thn (hi.run pins s σ H _ I h) fun xv s1 hx => thn hx fun itv s2 got => ?_
  obtain ⟨it, fp, tn, J, H2, rfl, I2, T, at2, out2, q⟩ := got
  refine wpAny_newObj_type (newEnv_comp ?_)
  generalize ed : s2.heap.objs.size = d
  have dn : H2 d = none := I2.hok.fresh (Nat.le_of_eq ed)
  obtain ⟨W, ⟨m0, w0⟩, turn⟩ := q d dn
  generalize e3 : ({ s2 with heap := s2.heap.push { cls := .type "dict", data := .dict #[] } } : Shared) = s3
  have p3 : s3.heap = s2.heap.push { cls := .type "dict", data := .dict #[] } := by rw [← e3]
  have I3 : Inv X pins σ (upd H2 d o0) s3 := by
    rw [← e3, ← ed]
    exact I2.laid (t' := s2.toks) (fun b o z => Heap.get?_push_of_some _ z) (Nat.le_refl _) (fr.okd s2.heap I2.big)
  have old : ∀ b ∈ fp, b < s2.heap.objs.size := fun b hb => (T.obj _ _ at2 b hb).elim fun o z => Heap.lt_size z.1
  have out3 : ∀ b ∈ fp, FpOk X pins (upd H2 d o0) b ∧ b < s3.heap.objs.size := by
    intro b hb
    have lt := old b hb
    have nb : b ≠ d := by rw [← ed]; exact Nat.ne_of_lt lt
    exact ⟨⟨(upd_ne nb).trans (out2 b hb).1, (out2 b hb).2⟩, by rw [p3, Heap.size_push]; exact Nat.lt_succ_of_lt lt⟩
  have at3 : tn 0 s3.heap := T.keep _ _ _ at2 fun b _ o z => by rw [p3]; exact Heap.get?_push_of_some _ z
  have I4 := block_start I3 ok nd out3
  generalize ecl : cellsFrom (s3.heap.objs.size + 1) scope.names (cloFrom X.env.cells scope.names []) = cl at I4 ⊢
  have kg := pt.tg s3 (upd H2 d o0) s3.heap.objs.size cl fp
  have kt := pt.ifs s3 (upd H2 d o0) s3.heap.objs.size cl fp
  have kk := pt.key s3 (upd H2 d o0) s3.heap.objs.size cl fp
  have kv := pt.val s3 (upd H2 d o0) s3.heap.objs.size cl fp
  show codeAny _ _ (.compStart _ 0 (.ref it) (.ref d) (compEnvC scope cl s3.heap.objs.size X.env)) (compPost _ _ _ none _ (.ref d) s3.heap.objs.size) { s3 with heap := pushCells (s3.heap.push { cls := .type "dict", data := .dict #[] }) scope.names }
  generalize ece : compEnvC scope cl s3.heap.objs.size X.env = ce at I4 kg kt kk kv ⊢
  have loc : ce.locals = s3.heap.objs.size := by rw [← ece]; rfl
  generalize eH : upd H2 d o0 = H3 at I3 I4 kg kt kk kv w0 out3
  generalize e4 : ({ s3 with heap := pushCells (s3.heap.push { cls := .type "dict", data := .dict #[] }) scope.names } : Shared) = s4 at I4 ⊢
  have at4 : tn 0 s4.heap := T.keep _ _ _ at3 fun b _ o z => by rw [← e4]; exact pushCells_keeps _ _ _ _ (Heap.get?_push_of_some _ z)
  have out : ∀ {σ' : L2.St} {H' : Hp} {s' : Shared}, Inv (X.blk s3 H3 scope ce fp) [] σ' H' s' → (∀ b ∈ fp, H' b = none) → ∀ b ∈ fp, FpOk (X.blk s3 H3 scope ce fp) [] H' b := by
    intro σ' H' s' I' hn b hb
    have x1 := I'.ok.exf b hb
    exact ⟨hn b hb, x1.1, I'.ok.exfs b hb, .inl hb, fun x c z => x1.2 x c z, fun p hp => absurd (show p ∈ ([] : List (Addr × Obj)) ++ [] from hp) (by simp)⟩
  have loop : codeAny (model X.prog X.w) X.A (.compLoop (.DictComp kx vx [⟨tg, iter, ifs, 0⟩] scope pos) 0 (.ref it) (.ref d) ce)
      (compPost (model X.prog X.w) X.A X.xe none (EP X pins σ Q) (.ref d) s3.heap.objs.size) s4 := by
    refine compLoop_anyD (fun n t => ∃ i H', Inv (X.blk s3 H3 scope ce fp) [] (wipe σ (own.map (·.2))) H' t ∧ tn i t.heap ∧ (∀ b ∈ fp, H' b = none) ∧ W i n H') ?_ m0 ⟨0, H3, I4, at4, fun b hb => (out3 b hb).1.1, w0⟩
    rintro n s5 ⟨i, H5, I5, at5, n5, w5⟩
    rcases turn i n H5 w5 with ⟨stop, done⟩ | ⟨go, Nx, next, step⟩
    · refine thnF (T.done (X.blk s3 H3 scope ce fp) rfl rfl rfl calm i [] s5 _ H5 (fun _ _ => False) I5 (out I5 n5) at5 stop) ?_
      rintro r s6 ⟨rfl, I6⟩
      have I7 : Inv X pins σ H5 s6 := I3.call' (ch := fp) I6.os I6.base I6.hok I6.bare (by
        intro b hb
        have z := (out3 b hb).1
        exact ⟨z.2.2.2.1, z.2.1, z.2.2.2.2.1, z.2.2.2.2.2⟩)
      have free : H5 s3.heap.objs.size = none := by
        have z : H5 ce.locals = none := I6.free
        rwa [loc] at z
      obtain ⟨m, ns, _⟩ := I6.loc
      have ns : s6.heap.Ns ce.locals m := ns
      rw [loc] at ns
      obtain ⟨f0, f1, _, f3, f4, f5⟩ := I3.fpOk (Nat.le_refl _) free
      exact ⟨m, ns, fun h'' sb => ⟨.ref d, H5, I7.turned (t' := s6.toks) (fun b o hb z => (sb.2 b hb).trans z) f0 f1 f3 f4 f5, rfl, done⟩⟩
    · refine thnF (T.item (X.blk s3 H3 scope ce fp) rfl rfl rfl calm i [] s5 _ H5 (fun _ _ => False) I5 (out I5 n5) at5 go) ?_
      rintro r s6 ⟨u, rfl, h6⟩
      refine thnF h6 ?_
      rintro _ s7 ⟨x, H7, I7, r7, y7, at7, n7⟩
      have pinned := I7.pinned (out I7 n7) (T.obj _ _ at7)
      refine thnF (kg.run _ s7 _ H7 x u _ pinned r7 (step x H7 y7)) ?_
      rintro _ s8 ⟨σ8, H8, I8, w8, q8⟩
      refine thnF (kt.run _ s8 σ8 H8 _ I8 q8) ?_
      rintro b s9 ⟨H9, I9, q9⟩
      have back : ∀ {t : Shared} {H' : Hp}, Inv (X.blk s3 H3 scope ce fp) ([] ++ pinsAt fp s7.heap) σ8 H' t → Nx H' →
          ∃ m, m < n ∧ ∃ i H', Inv (X.blk s3 H3 scope ce fp) [] (wipe σ (own.map (·.2))) H' t ∧ tn i t.heap ∧ (∀ b ∈ fp, H' b = none) ∧ W i m H' := by
        intro t H' It nx
        obtain ⟨m', less, w'⟩ := next H' nx
        have still : ∀ b ∈ fp, ∀ o, s7.heap.get? b = some o → t.heap.get? b = some o ∧ H' b = none := by
          intro b hb o z
          have y := It.pin (b, o) (List.mem_append_right _ (List.mem_append_right _ (mem_pinsAt hb z)))
          exact ⟨y.1, y.2.1⟩
        have len : (wipe σ (own.map (·.2))).length = σ8.length := by rw [← w8, wipe_length]
        refine ⟨m', less, i + 1, H', It.unpinned (pins := []) |>.weak len ?_, ?_, ?_, w'⟩
        · intro j v z
          rw [← w8] at z
          exact (wipe_some z).1
        · exact T.keep _ _ _ at7 fun b hb o z => (still b hb o z).1
        · intro b hb
          obtain ⟨o, z, _⟩ := T.obj _ _ at7 b hb
          exact (still b hb o z).2
      cases b with
      | false => exact back I9 (by simpa using q9)
      | true =>
        have q9 := (if_pos rfl).mp q9
        refine thnF (kk.run _ s9 σ8 H9 _ I9 q9) ?_
        rintro y s10 ⟨yk, H10, I10, r10, q10⟩
        refine thnF (kv.run _ s10 σ8 H10 _ I10 q10) ?_
        rintro z s11 ⟨zk, H11, I11, r11, H12, put, nx⟩
        exact put_dict (X := X.blk s3 H3 scope ce fp) room I11 put r10 r11 fun t It => back It nx
  exact codeAny_compStart_dict loop (T.self X.A 0 _ _ _ at4 loop)
end
end HX

/-! N6: dicts in the mirror: k in d, d[k], d.get(k, e), d[k] = e; `<` of pairs. -/
namespace NL
open PySem PySem.Spec PyProof.Rows L2
variable {tb : List Addr} {K : PySem.W.Frag} {H H' H1 : Hp} {ms ms' ex ex' : List Addr} {M M' M1 : MM}
def keyD : D → Option Key
  | .int i => some (.inl i)
  | .str x => some (.inr x)
  | _ => none
def keysD : List D → Option (List Key)
  | [] => some []
  | d :: ds => match keyD d, keysD ds with
    | some k, some ks => some (k :: ks)
    | _, _ => none
theorem RV.key {v : V} {d : D} {k : Key} (r : RV K H ms ex v d) (e : keyD d = some k) : v = kV k := by
  cases r <;> first | (cases e; rfl) | cases e
theorem RVs.keys : ∀ {vs : List V} {ds : List D} {ks : List Key}, RVs K H ms ex vs ds → keysD ds = some ks → vs = ks.map kV
  | _, [], _, h, e => by cases h; cases e; rfl
  | _, d :: ds, ks, h, e => by
    unfold keysD at e
    split at e
    · rename_i k ks' h1 h2
      cases e
      cases h with
      | cons a b => rw [a.key h1, RVs.keys b h2]; rfl
    · cases e
/-- what stands at a key -/
def look {κ : Type} [DecidableEq κ] : List κ → List D → κ → Option D
  | k :: ks, d :: ds, j => if k = j then some d else look ks ds j
  | _, _, _ => none
/-- what a lookup gives -/
def RO (K : PySem.W.Frag) (H : Hp) (ms ex : List Addr) : Option V → Option D → Prop
  | some v, some d => RV K H ms ex v d
  | none, none => True
  | _, _ => False
theorem look_ok {κ : Type} [DecidableEq κ] (j : κ) : ∀ {ks : List κ} {vs : List V} {ds : List D}, ks.length = ds.length → RVs K H ms ex vs ds → RO K H ms ex (valV (ks.zip vs) j) (look ks ds j)
  | [], _, [], _, .nil => True.intro
  | k :: ks, _, _ :: _, l, .cons (v := v) (vs := vs) a b => by
    by_cases e : k = j
    · have h1 : valV ((k :: ks).zip (v :: vs)) j = some v := valV_pos (p := (k, v)) e
      rw [h1]
      unfold look
      rw [if_pos e]
      exact a
    · have h1 : valV ((k :: ks).zip (v :: vs)) j = valV (ks.zip vs) j := valV_neg (p := (k, v)) e
      rw [h1]
      unfold look
      rw [if_neg e]
      exact look_ok j (by simpa using l) b
/-- d[k] where there is one; none: no dict, or no key of its sort -/
def getO : D → D → Option (Option D)
  | .dk ks ds, k => match keyD k with
    | some j => some (look ks ds j)
    | none => none
  | .dt ks ds, .tup xs => match keysD xs with
    | some j => some (look ks ds j)
    | none => none
  | _, _ => none
def getD (M : MM) (o k : D) : Option (Option D) := match o with
  | .mu n => match M[n]? with
    | some d => getO d k
    | none => none
  | d => getO d k
theorem getO_raw {a : Addr} {o k : D} {y : V} {r : Option D} (h : Raw K H ms ex a o) (ry : RV K H ms ex y k) (e : getO o k = some r) : IsD H a ∧ ∃ ov, DGet H a y ov ∧ RO K H ms ex ov r := by
  unfold getO at e
  split at e
  · split at e
    · rename_i j hj
      cases e
      cases h with
      | dk q l rr => exact ⟨.inl ⟨_, .inl q⟩, _, ry.key hj ▸ DGet.k q, look_ok j l rr⟩
    · cases e
  · split at e
    · rename_i j hj
      cases e
      cases h with
      | dt q l rr =>
        cases ry with
        | tup s r2 =>
          have := r2.keys hj
          subst this
          exact ⟨.inr ⟨_, .inl q⟩, _, DGet.t q s, look_ok j l rr⟩
    · cases e
  · cases e
theorem getO_dt {a : Addr} {ks : List (List Key)} {xs : List V} {ds : List D} {k : D} {y : V} {r : Option D} (q : Rd H a (.dT (ks.zip xs))) (l : ks.length = ds.length) (rr : RVs K H ms ex xs ds) (ry : RV K H ms ex y k) (e : getO (.dt ks ds) k = some r) : IsD H a ∧ ∃ ov, DGet H a y ov ∧ RO K H ms ex ov r := by
  unfold getO at e
  cases k with
  | tup zs =>
    cases hj : keysD zs with
    | none => simp only [hj] at e; cases e
    | some j =>
      simp only [hj] at e
      cases e
      cases ry with
      | tup s r2 =>
        have := r2.keys hj
        subst this
        exact ⟨.inr ⟨_, q⟩, _, .inr ⟨_, j, _, q, rfl, s, rfl⟩, look_ok j l rr⟩
  | _ => cases e
theorem getD_ok {o k : D} {x y : V} {r : Option D} (m : RM tb K H ms ex M) (rx : RV K H ms ex x o) (ry : RV K H ms ex y k) (e : getD M o k = some r) : ∃ a, x = .ref a ∧ IsD H a ∧ ∃ ov, DGet H a y ov ∧ RO K H ms ex ov r := by
  unfold getD at e
  split at e
  · split at e
    · rename_i d hd
      cases rx with
      | mu e1 => exact ⟨_, rfl, getO_raw (m.at_ _ _ _ e1 hd) ry e⟩
    · cases e
  · cases rx with
    | dk q n1 n2 l rr => exact ⟨_, rfl, getO_raw (.dk q l rr) ry e⟩
    | dt q n1 n2 l rr => exact ⟨_, rfl, getO_dt q l rr ry e⟩
    | _ => cases e
/-! ### in -/
def rInDi : R2 := fun x y H Q => ∃ a o, y = .ref a ∧ DGet H a x o ∧ Q (.bl o.isSome) H
def rNotInDi : R2 := fun x y H Q => ∃ a o, y = .ref a ∧ DGet H a x o ∧ Q (.bl (!o.isSome)) H
theorem op_inDi {X : Cx} (hu : X.A.units + 1 < cLine) : OpR X (compareOp .In) rInDi := by
  rintro pins s σ H x y v u Q I rx ry ⟨a, o, rfl, g, q⟩
  have eu : u = .ref a := ry
  rw [eu]
  exact d_in hu I g rx fun s' I' => ⟨.bl o.isSome, H, I', rfl, q⟩
theorem op_notInDi {X : Cx} (hu : X.A.units + 1 < cLine) : OpR X (compareOp .NotIn) rNotInDi := by
  rintro pins s σ H x y v u Q I rx ry ⟨a, o, rfl, g, q⟩
  have eu : u = .ref a := ry
  rw [eu]
  exact d_notIn hu I g rx fun s' I' => ⟨.bl (!o.isSome), H, I', rfl, q⟩
def oInX (M : MM) (x y : D) : Option D := match getD M y x with
  | some r => some (.bl r.isSome)
  | none => oIn M x y
def oNotInX (M : MM) (x y : D) : Option D := match getD M y x with
  | some r => some (.bl (!r.isSome))
  | none => oNotIn M x y
def rInX (K : PySem.W.Frag) : R2 := fun x y H Q => rInDi x y H Q ∨ rInA K x y H Q
def rNotInX (K : PySem.W.Frag) : R2 := fun x y H Q => rNotInDi x y H Q ∨ rNotInA K x y H Q
theorem op_inX {X : Cx} (hu : X.A.units + 65 < cLine) : OpR X (compareOp .In) (rInX X.K) := (op_inDi (by omega)).or (op_inA hu)
theorem op_notInX {X : Cx} (hu : X.A.units + 65 < cLine) : OpR X (compareOp .NotIn) (rNotInX X.K) := (op_notInDi (by omega)).or (op_notInA hu)
theorem RO.some_eq {ov : Option V} {r : Option D} (h : RO K H ms ex ov r) : ov.isSome = r.isSome := by
  cases ov <;> cases r <;> first | rfl | cases h
theorem s_inX : OpS tb K (rInX K) oInX := by
  intro H ms ex M v u x y z Q m rv ru e q
  unfold oInX at e
  split at e
  · rename_i r hr
    cases e
    obtain ⟨a, rfl, _, ov, g, ro⟩ := getD_ok m ru rv hr
    exact .inl ⟨a, ov, rfl, g, by rw [ro.some_eq]; exact q H _ (Ext.refl H) m (.bl _)⟩
  · exact .inr (s_in H ms ex M v u x y z Q m rv ru e q)
theorem s_notInX : OpS tb K (rNotInX K) oNotInX := by
  intro H ms ex M v u x y z Q m rv ru e q
  unfold oNotInX at e
  split at e
  · rename_i r hr
    cases e
    obtain ⟨a, rfl, _, ov, g, ro⟩ := getD_ok m ru rv hr
    exact .inl ⟨a, ov, rfl, g, by rw [ro.some_eq]; exact q H _ (Ext.refl H) m (.bl _)⟩
  · exact .inr (s_notIn H ms ex M v u x y z Q m rv ru e q)
/-! ### `<` -/
def oLtX (M : MM) : D → D → Option D
  | .tup [.int i, .int j], .tup [.int k, .int l] => some (.bl (HX.pairLt i j k l))
  | x, y => oLt M x y
def rLtX (K : PySem.W.Frag) : R2 := fun x y H Q => HX.rLtP K x y H Q ∨ rI0 (fun i j => .bl (decide (i < j))) x y H Q
theorem op_ltX {X : Cx} (hu : X.A.units < cLine) : OpR X (compareOp .Lt) (rLtX X.K) := (HX.op_ltP hu).or op_lt
theorem two_tup {v : V} {i j : Int} (r : RV K H ms ex v (.tup [.int i, .int j])) : ∃ a, v = .ref a ∧ SqT K H a [.int i, .int j] := by
  cases r with
  | tup s rr =>
    have := RVs.ints (ns := [i, j]) rr
    subst this
    exact ⟨_, rfl, SqT.of s⟩
theorem s_ltX : OpS tb K (rLtX K) oLtX := by
  intro H ms ex M v u x y z Q m rv ru e q
  unfold oLtX at e
  split at e
  · cases e
    obtain ⟨a, rfl, sa⟩ := two_tup rv
    obtain ⟨b, rfl, sb⟩ := two_tup ru
    exact .inl ⟨a, b, _, _, _, _, rfl, rfl, sa, sb, q H _ (Ext.refl H) m (.bl _)⟩
  · exact .inr (s_lt H ms ex M v u x y z Q m rv ru e q)
/-! ### d[k] -/
def rIxDi : R2 := fun x y H Q => ∃ a v, x = .ref a ∧ DGet H a y (some v) ∧ Q v H
def oIxX (M : MM) (x i : D) : Option D := match getD M x i with
  | some r => r
  | none => oIx M x i
def tIxX (K : PySem.W.Frag) : R2 := fun x y H Q => rIxDi x y H Q ∨ rIxA K x y H Q
theorem s_ixX : OpS tb K (tIxX K) oIxX := by
  intro H ms ex M v u x y z Q m rv ru e q
  unfold oIxX at e
  split at e
  · rename_i r hr
    subst e
    obtain ⟨a, rfl, _, ov, g, ro⟩ := getD_ok m rv ru hr
    cases ov with
    | none => cases ro
    | some w => exact .inl ⟨a, w, rfl, g, q H w (Ext.refl H) m ro⟩
  · exact .inr (s_ix H ms ex M v u x y z Q m rv ru e q)
end NL

/-! N7: d[k] as an index, d.get(k, e), d[k] = e. -/
namespace NL
open PySem PySem.Spec PyProof.Rows L2
variable {tb : List Addr} {K : PySem.W.Frag} {H H' H1 : Hp} {ms ms' ex ex' : List Addr} {M M' M1 : MM}
section
variable {X : Cx} {pins : List (Addr × Obj)} {σ : L2.St} {s : Shared}
theorem got_at {a : Addr} {y v : V} {u : Value} (room : X.A.units + 1 < cLine) (I : Inv X pins σ H s) (g : DGet H a y (some v)) (ry : RelV y u) :
    ∃ w, RelV v w ∧ ∀ (Q : Value → Shared → Prop) (E : Value → Shared → Prop), (∀ s', Inv X pins σ H s' → Q w s') → wpAny (model X.prog X.w) X.A (getItem (.ref a) u) Q E s := by
  rcases g with ⟨kvs, k, e, rfl, l⟩ | ⟨kvs, k, b, e, rfl, eb, l⟩
  · obtain ⟨_, _, vs, rel, dd⟩ := dk_rd I.hok e
    obtain ⟨w, hw, rw⟩ := RelO.some_of (v := v) (l ▸ rel.val k)
    exact ⟨w, rw, fun Q E q => wpAny_getItem_of (kV_is ry) dd.mapOf hw (q _ (I.tok _))⟩
  · have eu : u = Value.ref b := ry
    obtain ⟨_, _, xs, rel, dd⟩ := dt_rd I.hok e
    obtain ⟨w, hw, rw⟩ := RelO.some_of (v := v) (l ▸ KT.val rel k)
    obtain ⟨p, hp, rfl⟩ := Option.map_eq_some_iff.mp hw
    exact ⟨p.2, rw, fun Q E q => eu ▸ wpAny_getItem_heap (tupleKind_room_in1 room) (key_of I.hok eb) dd hp (q _ (I.tok _))⟩
end
theorem ix_Di {X : Cx} (room : X.A.units + 1 < cLine) : IxR X rIxDi := by
  rintro value slice pins s σ H x y v u Q I rx ry ⟨a, z, rfl, g, q⟩ hs
  have ev : v = Value.ref a := rx
  rw [ev] at hs ⊢
  obtain ⟨w, rw', all⟩ := got_at room I g ry
  exact subscriptTail_builtinR (x := w) (dict_typeIs I g) PySem.F.slot_dict_getitem.lookup (all _ _ fun s' I' => ⟨rfl, z, H, I', rw', q⟩) hs
theorem ix_X {X : Cx} (room : X.A.units + 1 < cLine) : IxR X (tIxX X.K) := (ix_Di room).or ix_A
/-! ### d.get(k, e) -/
def mGet2 (fo fk fe : FE) : FE := fun r M => match fo r M with
  | some (o, M1) => match fk r M1 with
    | some (k, M2) => match fe r M2 with
      | some (d, M3) => match getD M3 o k with
        | some (some z) => some (z, M3)
        | some none => some (d, M3)
        | none => none
      | none => none
    | none => none
  | none => none
/-- o is a dict that stays one -/
theorem isD_stay {o : D} {x : V} {a : Addr} (m : RM tb K H ms ex M) (e : Ext ms H H') (h : IsD H a) (ha : ¬ a ∈ ms) : IsD H' a := by
  rcases h with ⟨kvs, h⟩ | ⟨kvs, h⟩
  · rcases h with h | ⟨ob, h⟩
    · exact .inl ⟨kvs, .inl (e a _ h ha fun _ z => by cases z)⟩
    · exact .inl ⟨kvs, .inr ⟨ob, e a _ h ha fun _ z => by cases z⟩⟩
  · rcases h with h | ⟨ob, h⟩
    · exact .inr ⟨kvs, .inl (e a _ h ha fun _ z => by cases z)⟩
    · exact .inr ⟨kvs, .inr ⟨ob, e a _ h ha fun _ z => by cases z⟩⟩
/-! ### a key put -/
def setVs {κ α : Type} [DecidableEq κ] : List κ → List α → κ → α → List α
  | k :: ks, x :: xs, j, v => (if k = j then v else x) :: setVs ks xs j v
  | _, xs, _, _ => xs
def putKs {κ : Type} [DecidableEq κ] (ks : List κ) (j : κ) : List κ := if j ∈ ks then ks else ks ++ [j]
def putVs {κ α : Type} [DecidableEq κ] (ks : List κ) (xs : List α) (j : κ) (v : α) : List α := if j ∈ ks then setVs ks xs j v else xs ++ [v]
theorem setVs_len {κ α : Type} [DecidableEq κ] (j : κ) (v : α) : ∀ (ks : List κ) (xs : List α), (setVs ks xs j v).length = xs.length
  | [], _ => rfl
  | _ :: _, [] => rfl
  | k :: ks, x :: xs => congrArg (· + 1) (setVs_len j v ks xs)
theorem setVs_zip {κ α : Type} [DecidableEq κ] (j : κ) (v : α) : ∀ {ks : List κ} {xs : List α}, ks.length = xs.length → (ks.zip xs).map (fun kv => if kv.1 = j then (kv.1, v) else kv) = ks.zip (setVs ks xs j v)
  | [], [], _ => rfl
  | k :: ks, x :: xs, h => by
    have ih := setVs_zip (α := α) j v (ks := ks) (xs := xs) (by simpa using h)
    show (if k = j then (k, v) else (k, x)) :: (ks.zip xs).map (fun kv => if kv.1 = j then (kv.1, v) else kv) = (k, if k = j then v else x) :: ks.zip (setVs ks xs j v)
    rw [ih]
    by_cases e : k = j
    · rw [if_pos e, if_pos e]
    · rw [if_neg e, if_neg e]
theorem zip_any {κ α : Type} [DecidableEq κ] (j : κ) : ∀ {ks : List κ} {xs : List α}, ks.length = xs.length → ((ks.zip xs).any fun kv => decide (kv.1 = j)) = decide (j ∈ ks)
  | [], [], _ => by simp
  | k :: ks, x :: xs, h => by
    have ih := zip_any (α := α) j (ks := ks) (xs := xs) (by simpa using h)
    simp only [List.zip_cons_cons, List.any_cons, ih]
    rw [Bool.eq_iff_iff]
    simp only [Bool.or_eq_true, decide_eq_true_eq, List.mem_cons]
    constructor
    · rintro (e | e)
      · exact .inl e.symm
      · exact .inr e
    · rintro (e | e)
      · exact .inl e.symm
      · exact .inr e
theorem putK_zip {κ : Type} [DecidableEq κ] (j : κ) (v : V) {ks : List κ} {xs : List V} (h : ks.length = xs.length) : putK (ks.zip xs) j v = (putKs ks j).zip (putVs ks xs j v) := by
  unfold putK putKs putVs
  rw [zip_any j h]
  by_cases e : j ∈ ks
  · rw [if_pos (decide_eq_true e), if_pos e, if_pos e, setVs_zip j v h]
  · rw [if_neg (by simpa using e), if_neg e, if_neg e]
    rw [List.zip_append h]
    rfl
theorem putVs_len {κ : Type} [DecidableEq κ] (j : κ) {α β : Type} (v : α) {ks : List κ} {xs : List α} (h : ks.length = xs.length) : (putKs ks j).length = (putVs ks xs j v).length := by
  unfold putKs putVs
  by_cases e : j ∈ ks
  · rw [if_pos e, if_pos e, setVs_len, h]
  · rw [if_neg e, if_neg e, List.length_append, List.length_append, h]
    rfl
theorem RVs.setVs {κ : Type} [DecidableEq κ] {v : V} {d : D} (j : κ) (rd : RV K H ms ex v d) : ∀ {ks : List κ} {vs : List V} {ds : List D}, RVs K H ms ex vs ds → RVs K H ms ex (NL.setVs ks vs j v) (NL.setVs ks ds j d)
  | [], _, _, h => h
  | _ :: _, _, _, .nil => .nil
  | k :: ks, _, _, .cons a b => by
    show RVs K H ms ex ((if k = j then v else _) :: NL.setVs ks _ j v) ((if k = j then d else _) :: NL.setVs ks _ j d)
    by_cases e : k = j
    · rw [if_pos e, if_pos e]
      exact .cons rd (RVs.setVs j rd b)
    · rw [if_neg e, if_neg e]
      exact .cons a (RVs.setVs j rd b)
theorem RVs.putVs {κ : Type} [DecidableEq κ] {v : V} {d : D} {ks : List κ} {vs : List V} {ds : List D} (j : κ) (rd : RV K H ms ex v d) (h : RVs K H ms ex vs ds) : RVs K H ms ex (NL.putVs ks vs j v) (NL.putVs ks ds j d) := by
  unfold NL.putVs
  by_cases e : j ∈ ks
  · rw [if_pos e, if_pos e]
    exact RVs.setVs j rd h
  · rw [if_neg e, if_neg e]
    exact h.append (.cons rd .nil)
/-- the dict with a key put -/
def putO : D → D → D → Option D
  | .dk ks ds, k, d => match keyD k with
    | some j => if ds.length ≤ 1000 then some (.dk (putKs ks j) (putVs ks ds j d)) else none
    | none => none
  | .dt ks ds, .tup xs, d => match keysD xs with
    | some j => if ds.length ≤ 1000 then some (.dt (putKs ks j) (putVs ks ds j d)) else none
    | none => none
  | _, _, _ => none
theorem putO_ok {a : Addr} {o k d o' : D} {y v : V} (h : Raw K H ms ex a o) (ry : RV K H ms ex y k) (rd : RV K H ms ex v d) (e : putO o k d = some o') :
    ∃ u, DPut H a y v (upd H a u) ∧ (∀ ps, u ≠ .tbl ps) ∧ ((∀ {x : V} {c : D}, RV K H ms ex x c → RV K (upd H a u) ms ex x c) → Raw K (upd H a u) ms ex a o') := by
  have lift : ∀ {u : HO}, (∀ {x : V} {c : D}, RV K H ms ex x c → RV K (upd H a u) ms ex x c) → ∀ {xs : List V} {cs : List D}, RVs K H ms ex xs cs → RVs K (upd H a u) ms ex xs cs := by
    intro u f xs cs
    induction cs generalizing xs with
    | nil => intro h; cases h; exact .nil
    | cons c cs ih =>
      intro h
      cases h with
      | cons h1 h2 => exact .cons (f h1) (ih h2)
  unfold putO at e
  split at e
  · split at e
    · rename_i j hj
      split at e
      · rename_i hl
        cases e
        cases h with
        | dk q l rr =>
          have few := rr.length
          refine ⟨_, ry.key hj ▸ DPut.k q (by rw [List.length_zip]; have := small1000 hl; omega), fun _ z => (by cases z), fun f => ?_⟩
          exact .dk (by rw [upd_same, putK_zip j v (by rw [l, few])]) (putVs_len (β := Unit) j d l) (lift f (rr.putVs j rd))
      · cases e
    · cases e
  · split at e
    · rename_i j hj
      split at e
      · rename_i hl
        cases e
        cases h with
        | dt q l rr =>
          have few := rr.length
          cases ry with
          | tup sk rk =>
            have := rk.keys hj
            subst this
            refine ⟨_, DPut.t q sk (by rw [List.length_zip]; have := small1000 hl; omega), fun _ z => (by cases z), fun f => ?_⟩
            exact .dt (by rw [upd_same, putK_zip j v (by rw [l, few])]) (putVs_len (β := Unit) j d l) (lift f (rr.putVs j rd))
      · cases e
    · cases e
  · cases e
end NL

/-! N8: d[k] = e as a statement, d.get(k, e), x.f. -/
namespace NL
open PySem PySem.Spec PyProof.Rows L2
variable {tb : List Addr} {K : PySem.W.Frag} {H H' H1 : Hp} {ms ms' ex ex' : List Addr} {M M' M1 : MM}
section
variable {X : Cx} {pos p2 : Pos} {a b c : Expr} {es : List Expr} {f g h fo fk fe : FE} {fa : FA} {st : Stmt} {sts : List Stmt} {fs gs : FS}
/-- o[k] = e, o a dict that may change -/
def mPut (fe fo fk : FE) : FS := fun r M => match fe r M with
  | some (d, M1) => match fo r M1 with
    | some (.mu n, M2) => match fk r M2 with
      | some (k, M3) => match M3[n]? with
        | some o => match putO o k d with
          | some o' => some (.nx r, M3.set n o')
          | none => none
        | none => none
      | none => none
    | _ => none
  | none => none
theorem mt_put {E : Ends} {σ : L2.St} {H : Hp} {fe fo fk : FE} (h : sM tb K (mPut fe fo fk) E σ H) : tAsg (eM tb K fe) (gSub (eM tb K fo) (eM tb K fk) rSetD) E σ H := by
  obtain ⟨ms, ex, r, M, o, M', m, s, e, q⟩ := h
  unfold mPut at e
  split at e
  · rename_i d M1 h1
    split at e
    · rename_i n M2 h2
      split at e
      · rename_i k M3 h3
        split at e
        · rename_i od h4
          split at e
          · rename_i o' h5
            cases e
            refine eM.use m s h1 fun H1 v1 x1 m1 s1 r1 => ?_
            refine eM.use m1 s1 h2 fun H2 v2 x2 m2 s2 r2 => ?_
            refine eM.use m2 s2 h3 fun H3 v3 x3 m3 s3 r3 => ?_
            have r2' := r2.ext m2 x3
            cases r2' with
            | mu e1 =>
              have raw := m3.at_ _ _ _ e1 h4
              have rd := (r1.ext m1 x2).ext m2 x3
              obtain ⟨u, g, nt, mk⟩ := putO_ok raw r3 rd h5
              obtain ⟨x4, m4⟩ := m3.store e1 (List.getElem?_eq_some_iff.mp h4).1 nt raw.thing fun x => mk fun r => r.ext m3 x
              exact ⟨_, _, rfl, g, q _ (((x1.trans x2).trans x3).trans x4) m4 σ (s3.ext m3 x4)⟩
          · cases e
        · cases e
      · cases e
    · cases e
  · cases e
/-- a dict -/
def isDic (M : MM) : D → Bool
  | .dk _ _ => true
  | .dt _ _ => true
  | .mu n => match M[n]? with
    | some (.dk _ _) => true
    | some (.dt _ _) => true
    | _ => false
  | _ => false
theorem isDic_ok {o : D} {x : V} (m : RM tb K H ms ex M) (rx : RV K H ms ex x o) (e : isDic M o = true) : ∃ a, x = .ref a ∧ IsD H a := by
  unfold isDic at e
  split at e
  · cases rx with
    | dk q _ _ _ _ => exact ⟨_, rfl, .inl ⟨_, .inl q⟩⟩
  · cases rx with
    | dt q _ _ _ _ => exact ⟨_, rfl, .inr ⟨_, q⟩⟩
  · cases rx with
    | mu e1 =>
      split at e
      · rename_i h4
        cases m.at_ _ _ _ e1 h4 with
        | dk q _ _ => exact ⟨_, rfl, .inl ⟨_, .inl q⟩⟩
      · rename_i h4
        cases m.at_ _ _ _ e1 h4 with
        | dt q _ _ => exact ⟨_, rfl, .inr ⟨_, .inl q⟩⟩
      · cases e
  · cases e
/-- o.get(k, e) -/
def mGet (fo fk fe : FE) : FE := fun r M => match fo r M with
  | some (o, M1) => if isDic M1 o then match fk r M1 with
      | some (k, M2) => match fe r M2 with
        | some (d, M3) => match getD M3 o k with
          | some z => some (z.getD d, M3)
          | none => none
        | none => none
      | none => none
    else none
  | none => none
theorem me_get {o e f : Expr} {apos cpos : Pos} (hu : X.A.units + 1 < cLine) (ho : PE X o (eM tb X.K fo)) (he : PE X e (eM tb X.K fk)) (hf : PE X f (eM tb X.K fe)) (m2 : M2 X o "get" apos e f cpos) :
    PE X (.Call (.Attribute o "get" apos) [e, f] [] cpos) (eM tb X.K (mGet fo fk fe)) :=
  (pe_dget2 hu ho he hf m2).weak fun σ H Q h => by
    obtain ⟨ms, ex, r, M, d', M', m, s, e, q⟩ := h
    unfold mGet at e
    split at e
    · rename_i od M1 h1
      split at e
      · rename_i hd
        split at e
        · rename_i k M2 h2
          split at e
          · rename_i d M3 h3
            split at e
            · rename_i z h4
              cases e
              refine eM.use m s h1 fun H1 v1 x1 m1 s1 r1 => ?_
              obtain ⟨p, rfl, dd⟩ := isDic_ok m1 r1 hd
              refine ⟨p, rfl, dd, ?_⟩
              refine eM.use m1 s1 h2 fun H2 v2 x2 m2 s2 r2 => ?_
              refine eM.use m2 s2 h3 fun H3 v3 x3 m3 s3 r3 => ?_
              obtain ⟨p', ep, _, ov, g, ro⟩ := getD_ok m3 ((r1.ext m1 x2).ext m2 x3) (r2.ext m2 x3) h4
              cases ep
              refine ⟨ov, g, q H3 _ ((x1.trans x2).trans x3) m3 ?_⟩
              cases ov with
              | none =>
                cases z with
                | none => exact r3
                | some _ => cases ro
              | some w =>
                cases z with
                | none => cases ro
                | some _ => exact ro
            · cases e
          · cases e
        · cases e
      · cases e
    · cases e
end
end NL

/-! N9: dict comprehensions. -/
namespace NL
open PySem PySem.Spec PyProof.Rows L2
variable {tb : List Addr} {K : PySem.W.Frag} {H H' H1 : Hp} {ms ms' ex ex' : List Addr} {M M' M1 : MM}
variable {X : Cx} {pos p2 : Pos} {a b c : Expr} {f g h fk fe : FE} {fb : FB} {ft : FT} {vs : List Nat}
/-- the turns of a dict comprehension; od: the dict so far -/
def dcD (tg : FT) (t : FB) (fk fe : FE) (r : En) : List D → D → MM → Option (D × MM)
  | [], od, M => some (od, M)
  | d :: ds, od, M => match tg d r with
    | some r1 => match t r1 M with
      | some (true, M1) => match fk r1 M1 with
        | some (k, M2) => match fe r1 M2 with
          | some (v, M3) => match putO od k v with
            | some od' => dcD tg t fk fe r ds od' M3
            | none => none
          | none => none
        | none => none
      | some (false, M1) => dcD tg t fk fe r ds od M1
      | none => none
    | none => none
def mDc (o0 : D) (it : D → Option (List D)) (fi : FE) (tg : FT) (t : FB) (fk fe : FE) (vs : List Nat) : FE := fun r M => match fi r M with
  | some (d, M1) => match it d with
    | some xs => dcD tg t fk fe (wipeD r vs) xs o0 M1
    | none => none
  | none => none
/-- what a dict made anew is told by, here and there -/
inductive New0 : HO → D → Prop
  | k : New0 (.dK []) (.dk [] [])
  | t : New0 (.dT []) (.dt [] [])
theorem New0.fresh {u : HO} {d : D} (h : New0 u d) : HX.Fresh u := by
  cases h with
  | k => exact .k
  | t => exact .t
theorem New0.raw {u : HO} {d : D} (h : New0 u d) {p : Addr} : Raw K (upd H p u) ms ex p d := by
  cases h with
  | k => exact .dk (xs := []) upd_same rfl .nil
  | t => exact .dt (xs := []) upd_same rfl .nil
theorem wipe_wipe (vs : List Nat) (σ : L2.St) : L2.wipe (L2.wipe σ vs) vs = L2.wipe σ vs := by
  have gen : ∀ (us : List Nat) (σ : L2.St), (∀ i ∈ us, i ∈ vs) → L2.wipe (L2.wipe σ us) vs = L2.wipe σ vs := fun us => by
    induction us with
    | nil => intro σ _; rfl
    | cons u us ih =>
      intro σ hu
      show L2.wipe ((L2.wipe σ us).set u none) vs = _
      rw [wipe_same _ _ _ _ (hu u List.mem_cons_self)]
      exact ih σ fun i hi => hu i (List.mem_cons_of_mem _ hi)
  exact gen vs σ fun _ h => h
/-- a dict that was made becomes one like others -/
theorem raw_out {p : Addr} {d : D} (m : RM tb K H ms (p :: ex) M) (hn : p ∉ ex) (h : Raw K H ms (p :: ex) p d) : RM tb K H ms ex M ∧ RV K H ms ex (.ref p) d := by
  obtain ⟨h2, m2⟩ := lock_out m
  have np := (m.exs p List.mem_cons_self).1
  refine ⟨m2, ?_⟩
  cases h with
  | lst e r => exact .lst e np hn (h2 r)
  | dk e l r => exact .dk e np hn l (h2 r)
  | dt e l r => exact .dt (.inl e) np hn l (h2 r)
theorem dc_rd0 {J : It} {σ : L2.St} {r : En} {xs : List D} {o0 od : D} {u0 : HO} {Q : VK} (n0 : New0 u0 o0) (m : RM tb K H ms ex M) (s : Sl K H ms ex σ r) (e : dcD ft fb fk fe (wipeD r vs) xs o0 M = some (od, M'))
    (fin : ∀ p H', H p = none → Ext ms H H' → RM tb K H' ms (p :: ex) M' → Raw K H' ms (p :: ex) p od → Q (.ref p) H')
    (hgo : ∀ (i : Nat) (H' : Hp) (d : D), Ext ms H H' → xs[i]? = some d → J.go i H' ∧ ∀ x H2, J.yld i H' x H2 → H2 = H' ∧ RV K H ms ex x d) (hst : ∀ H', Ext ms H H' → J.stop xs.length H') :
    ∀ d, H d = none → ∃ W : Nat → Nat → Hp → Prop, (∃ m, W 0 m (upd H d u0)) ∧ ∀ i m H', W i m H' →
      (J.stop i H' ∧ Q (.ref d) H') ∨ (J.go i H' ∧ ∃ Nx : Hp → Prop, (∀ H2, Nx H2 → ∃ m', m' < m ∧ W (i + 1) m' H2) ∧ ∀ x H2, J.yld i H' x H2 → HX.turnX (gW K vs ft) (bM tb K fb) (eM tb K fk) (eM tb K fe) vs σ d x H2 Nx) := by
  intro p hp
  obtain ⟨np1, np2⟩ := fresh_ms m hp
  have thing : ∀ {H2 : Hp} {d : D}, Raw K H2 ms (p :: ex) p d → Thing H2 p := fun z => z.thing
  let W : Nat → Nat → Hp → Prop := fun i k H2 => k = xs.length - i ∧ i ≤ xs.length ∧ ∃ Mi d, Ext ms H H2 ∧ RM tb K H2 ms (p :: ex) Mi ∧ Raw K H2 ms (p :: ex) p d ∧
    dcD ft fb fk fe (wipeD r vs) (xs.drop i) d Mi = some (od, M')
  have th0 : Thing (upd H p u0) p := (n0.raw (K := K) (ms := ms) (ex := ex)).thing
  refine ⟨W, ⟨xs.length, by omega, Nat.zero_le _, M, o0, Ext.of (same_new hp), lock_newO m hp th0, n0.raw, e⟩, ?_⟩
  rintro i k H2 ⟨hk, hi, Mi, d, x2, m2, raw, ee⟩
  by_cases hlt : i < xs.length
  · obtain ⟨hg, hyl⟩ := hgo i H2 xs[i] x2 (List.getElem?_eq_getElem hlt)
    rw [List.drop_eq_getElem_cons hlt] at ee
    unfold dcD at ee
    split at ee
    · rename_i r2 h2
      refine .inr ⟨hg, W (i + 1) (xs.length - (i + 1)), fun H' hN => ⟨xs.length - (i + 1), by omega, hN⟩, fun x H3 hx => ?_⟩
      obtain ⟨eH, rv⟩ := hyl x H3 hx
      subst eH
      have rv' := rv.lock m hp x2
      have s2 : Sl K H3 ms (p :: ex) (L2.wipe σ vs) (wipeD r vs) := (s.wipe vs).lock m hp x2
      refine ⟨ms, p :: ex, _, xs[i], r2, s2, rv', h2, fun σ2 s3 w3 => ⟨w3.trans (wipe_wipe vs σ), ?_⟩⟩
      split at ee
      · rename_i M1 h3
        refine bM.use m2 s3 h3 fun H4 x4 m4 s4 => iteT ?_
        split at ee
        · rename_i ky M2 h4
          refine eM.use m4 s4 h4 fun H5 v5 x5 m5 s5 r5 => ?_
          split at ee
          · rename_i vl M3 h5
            refine eM.use m5 s5 h5 fun H6 v6 x6 m6 s6 r6 => ?_
            split at ee
            · rename_i d' hput
              have x46 := (x4.trans x5).trans x6
              have raw6 : Raw K H6 ms (p :: ex) p d := raw.of (fun o z t => x46 p o z np1 t) fun z => ((z.ext m2 x4).ext m4 x5).ext m5 x6
              obtain ⟨u, put, nt, mk⟩ := putO_ok raw6 (r5.ext m5 x6) r6 hput
              have raw7 : ∀ (z : ∀ {x : V} {c : D}, RV K H6 ms (p :: ex) x c → RV K (upd H6 p u) ms (p :: ex) x c), Raw K (upd H6 p u) ms (p :: ex) p d' := mk
              have th : Thing (upd H6 p u) p := by
                rcases put with ⟨kvs, k, e1, _, _, e2⟩ | ⟨kvs, k, b, e1, _, _, _, e2⟩
                · have : upd H6 p u p = upd H6 p _ p := congrFun e2 p
                  rw [upd_same] at this
                  exact .inr (.inl ⟨_, by rw [e2]; exact upd_same⟩)
                · exact .inr (.inr ⟨_, by rw [e2]; exact upd_same⟩)
              obtain ⟨lg, mg⟩ := lock_growO (o := u) m6 th
              exact ⟨_, put, rfl, hlt, M3, d', (x2.trans x46).grow hp, mg, mk lg, ee⟩
            · cases ee
          · cases ee
        · cases ee
      · rename_i M1 h3
        refine bM.use m2 s3 h3 fun H4 x4 m4 s4 => iteF ?_
        exact ⟨rfl, hlt, M1, d, x2.trans x4, m4, raw.of (fun o z t => x4 p o z np1 t) fun z => z.ext m2 x4, ee⟩
      · cases ee
    · cases ee
  · have ei : i = xs.length := by omega
    subst ei
    rw [List.drop_length] at ee
    cases ee
    exact .inl ⟨hst H2 x2, fin p H2 hp x2 m2 raw⟩
theorem dc_rd {J : It} {σ : L2.St} {r : En} {xs : List D} {o0 od : D} {u0 : HO} {Q : VK} (n0 : New0 u0 o0) (m : RM tb K H ms ex M) (s : Sl K H ms ex σ r) (e : dcD ft fb fk fe (wipeD r vs) xs o0 M = some (od, M'))
    (q : ∀ H' v, Ext ms H H' → RM tb K H' ms ex M' → RV K H' ms ex v od → Q v H')
    (hgo : ∀ (i : Nat) (H' : Hp) (d : D), Ext ms H H' → xs[i]? = some d → J.go i H' ∧ ∀ x H2, J.yld i H' x H2 → H2 = H' ∧ RV K H ms ex x d) (hst : ∀ H', Ext ms H H' → J.stop xs.length H') :
    ∀ d, H d = none → ∃ W : Nat → Nat → Hp → Prop, (∃ m, W 0 m (upd H d u0)) ∧ ∀ i m H', W i m H' →
      (J.stop i H' ∧ Q (.ref d) H') ∨ (J.go i H' ∧ ∃ Nx : Hp → Prop, (∀ H2, Nx H2 → ∃ m', m' < m ∧ W (i + 1) m' H2) ∧ ∀ x H2, J.yld i H' x H2 → HX.turnX (gW K vs ft) (bM tb K fb) (eM tb K fk) (eM tb K fe) vs σ d x H2 Nx) :=
  dc_rd0 n0 m s e (fun p H' hp x m2 raw => by
    obtain ⟨m3, r3⟩ := raw_out m2 (fresh_ms m hp).2 raw
    exact q H' _ x m3 r3) hgo hst
theorem mt_dcT {u0 : HO} {o0 : D} {σ : L2.St} {Q : VK} (n0 : New0 u0 o0) (h : eM tb K (mDc o0 itemsT f ft fb fk fe vs) σ H Q) : HX.tDx u0 (iTup K (eM tb K f)) (gW K vs ft) (bM tb K fb) (eM tb K fk) (eM tb K fe) vs σ H Q := by
  obtain ⟨ms, ex, r, M, o, M', m, s, e, q⟩ := h
  unfold mDc at e
  split at e
  · rename_i d M1 h1
    split at e
    · rename_i xs h2
      refine eM.use m s h1 fun H1 v1 x1 m1 s1 r1 => ?_
      unfold itemsT at h2
      split at h2
      · cases h2
        cases r1 with
        | tup sq rr => exact ⟨_, rfl, ⟨_, SqT.of sq⟩, dc_rd n0 m1 s1 e (fun H2 v x2 m2 r2 => q H2 v (x1.trans x2) m2 r2) (fun i H' d x hd => itt_go0 m1 (SqT.of sq) rr i H' d x hd) (fun H' x => itt_stop m1 (SqT.of sq) rr H' x)⟩
      · cases h2
    · cases e
  · cases e
theorem mt_dcL {u0 : HO} {o0 : D} {σ : L2.St} {Q : VK} (n0 : New0 u0 o0) (h : eM tb K (mDc o0 itemsL f ft fb fk fe vs) σ H Q) : HX.tDx u0 (iList K (eM tb K f)) (gW K vs ft) (bM tb K fb) (eM tb K fk) (eM tb K fe) vs σ H Q := by
  obtain ⟨ms, ex, r, M, o, M', m, s, e, q⟩ := h
  unfold mDc at e
  split at e
  · rename_i d M1 h1
    split at e
    · rename_i xs h2
      refine eM.use m s h1 fun H1 v1 x1 m1 s1 r1 => ?_
      unfold itemsL at h2
      split at h2
      · cases h2
        cases r1 with
        | lst sq n1 n2 rr => exact ⟨_, rfl, ⟨_, SqL.of sq⟩, dc_rd n0 m1 s1 e (fun H2 v x2 m2 r2 => q H2 v (x1.trans x2) m2 r2) (fun i H' d x hd => itl_go0 m1 sq n1 rr i H' d x hd) (fun H' x => itl_stop sq n1 rr H' x)⟩
      · cases h2
    · cases e
  · cases e
end NL

/-! N10: what a loop or a comprehension goes over, told once; comprehensions with two `for`. -/
namespace NL
open PySem PySem.Spec PyProof.Rows L2
variable {tb : List Addr} {K : PySem.W.Frag} {H H' H1 : Hp} {ms ms' ex ex' : List Addr} {M M' M1 : MM}
variable {X : Cx} {pos p2 : Pos} {a b c : Expr} {f g h fk fe : FE} {fa : FA} {fb fb1 : FB} {ft ft1 : FT} {vs vs1 : List Nat}
abbrev FI := En → MM → Option (List D × MM)
def fiT (f : FE) : FI := fun r M => match f r M with
  | some (.tup xs, M1) => some (xs, M1)
  | _ => none
def fiL (f : FE) : FI := fun r M => match f r M with
  | some (.lst xs, M1) => some (xs, M1)
  | _ => none
def fiR (rg : List D → Option (Int × Int)) (fa : FA) : FI := fun r M => match fa r M with
  | some (ds, M1) => match rg ds with
    | some (i, j) => some (rangeD i (j - i).toNat, M1)
    | none => none
  | none => none
/-- from one heap to the next, the things in making apart -/
structure ExtE (ms ex : List Addr) (H H' : Hp) : Prop where
  keep : ∀ a o, H a = some o → a ∉ ms → a ∉ ex → (∀ ps, o ≠ .tbl ps) → H' a = some o
theorem Ext.e (x : Ext ms H H') : ExtE ms ex H H' := ⟨fun a o h n _ t => x a o h n t⟩
theorem ExtE.ext {H2 : Hp} (x : ExtE ms ex H H') (y : Ext ms H' H2) : ExtE ms ex H H2 := ⟨fun a o h n n2 t => y a o (x.keep a o h n n2 t) n t⟩
theorem ExtE.put {p : Addr} {o : HO} (x : ExtE ms ex H H') (hp : p ∈ ex) : ExtE ms ex H (upd H' p o) := ⟨fun a u h n n2 t => (upd_ne (fun z : a = p => n2 (by rw [z]; exact hp))).trans (x.keep a u h n n2 t)⟩
/-- the way over the items -/
structure Goes (K : PySem.W.Frag) (ms ex : List Addr) (J : It) (H : Hp) (xs : List D) : Prop where
  go : ∀ (i : Nat) (H' : Hp) (d : D), ExtE ms ex H H' → xs[i]? = some d → J.go i H' ∧ ∀ x H2, J.yld i H' x H2 → H2 = H' ∧ RV K H ms ex x d
  stop : ∀ H', ExtE ms ex H H' → J.stop xs.length H'
theorem goes_T {vs : List V} {ds : List D} {q : Addr} (m : RM tb K H ms ex M) (sq : H q = some (.tup vs)) (rr : RVs K H ms ex vs ds) : Goes K ms ex (Itt K q) H ds := by
  have still : ∀ H', ExtE ms ex H H' → SqT K H' q vs := fun H' x => SqT.of (x.keep q _ sq (fun z => (m.lst (.inl z)).ne sq (fun _ y => by cases y) (fun _ y => by cases y) fun _ y => by cases y) (fun z => (m.lst (.inr z)).ne sq (fun _ y => by cases y) (fun _ y => by cases y) fun _ y => by cases y) fun _ y => by cases y)
  refine ⟨fun i H' d x hd => ?_, fun H' x => ⟨vs, still H' x, by rw [rr.length]; exact Nat.le_refl _⟩⟩
  obtain ⟨v0, h0, rv0⟩ := rr.get hd
  refine ⟨⟨vs, v0, still H' x, h0⟩, fun v H2 hy => ⟨hy.1, ?_⟩⟩
  have := hy.2 vs (still H' x)
  rw [h0] at this
  cases this
  exact rv0
theorem goes_L {vs : List V} {ds : List D} {q : Addr} (sq : H q = some (.lst vs)) (n1 : q ∉ ms) (n2 : q ∉ ex) (rr : RVs K H ms ex vs ds) : Goes K ms ex (Itl K q) H ds := by
  have still : ∀ H', ExtE ms ex H H' → SqL K H' q vs := fun H' x => SqL.of (x.keep q _ sq n1 n2 fun _ y => by cases y)
  refine ⟨fun i H' d x hd => ?_, fun H' x => ⟨vs, still H' x, by rw [rr.length]; exact Nat.le_refl _⟩⟩
  obtain ⟨v0, h0, rv0⟩ := rr.get hd
  refine ⟨⟨vs, v0, still H' x, h0⟩, fun v H2 hy => ⟨hy.1, ?_⟩⟩
  have := hy.2 vs (still H' x)
  rw [h0] at this
  cases this
  exact rv0
theorem Sl.lift {σ : L2.St} {r : En} {H H' : Hp} (k : ∀ {v : V} {d : D}, RV K H ms ex v d → RV K H' ms ex v d) (s : Sl K H ms ex σ r) : Sl K H' ms ex σ r :=
  ⟨s.len, fun i d e => (s.at_ i d e).elim fun v z => ⟨v, z.1, k z.2⟩⟩
def ItOk (tb : List Addr) (K : PySem.W.Frag) (wi : TI) (fi : FI) : Prop := ∀ {ms ex : List Addr} {H : Hp} {M M1 : MM} {r : En} {σ : L2.St} {xs : List D} {Φ : It → Hp → Prop}, RM tb K H ms ex M → Sl K H ms ex σ r → fi r M = some (xs, M1) →
  (∀ J H1, Ext ms H H1 → RM tb K H1 ms ex M1 → Sl K H1 ms ex σ r → Goes K ms ex J H1 xs → Φ J H1) → wi σ H Φ
theorem it_T : ItOk tb K (iTup K (eM tb K f)) (fiT f) := by
  intro ms ex H M M1 r σ xs Φ m s e q
  unfold fiT at e
  split at e
  · rename_i ys M2 h1
    cases e
    refine eM.use m s h1 fun H1 v1 x1 m1 s1 r1 => ?_
    cases r1 with
    | tup sq rr => exact ⟨_, rfl, ⟨_, SqT.of sq⟩, q _ _ x1 m1 s1 (goes_T m1 sq rr)⟩
  · cases e
theorem it_L : ItOk tb K (iList K (eM tb K f)) (fiL f) := by
  intro ms ex H M M1 r σ xs Φ m s e q
  unfold fiL at e
  split at e
  · rename_i ys M2 h1
    cases e
    refine eM.use m s h1 fun H1 v1 x1 m1 s1 r1 => ?_
    cases r1 with
    | lst sq n1 n2 rr => exact ⟨_, rfl, ⟨_, SqL.of sq⟩, q _ _ x1 m1 s1 (goes_L sq n1 n2 rr)⟩
  · cases e
theorem goes_rng {i : Int} {n : Nat} : Goes K ms ex (Itr i n) H (rangeD i n) := ⟨fun k H' d _ hd => itr_go0 k H' d hd, fun H' _ => by rw [rangeD_len]; exact Nat.le_refl _⟩
theorem it_R1 : ItOk tb K (iRng1 (aM tb K fa)) (fiR rng1 fa) := by
  intro ms ex H M M1 r σ xs Φ m s e q
  unfold fiR at e
  split at e
  · rename_i ds M2 h1
    split at e
    · rename_i i j h2
      cases e
      refine aM.use m s h1 fun H1 v1 x1 m1 s1 r1 => ?_
      unfold rng1 at h2
      split at h2
      · split at h2
        · rename_i hb
          cases h2
          cases r1 with
          | cons r1 rr =>
            cases rr
            cases r1
            refine ⟨j, rfl, by omega, by omega, ?_⟩
            have e0 : (j - 0).toNat = j.toNat := by simp
            exact e0 ▸ q _ _ x1 m1 s1 (e0 ▸ goes_rng)
        · cases h2
      · cases h2
    · cases e
  · cases e
theorem it_R2 : ItOk tb K (iRng2 (aM tb K fa)) (fiR rng2 fa) := by
  intro ms ex H M M1 r σ xs Φ m s e q
  unfold fiR at e
  split at e
  · rename_i ds M2 h1
    split at e
    · rename_i i j h2
      cases e
      refine aM.use m s h1 fun H1 v1 x1 m1 s1 r1 => ?_
      unfold rng2 at h2
      split at h2
      · split at h2
        · rename_i hb
          cases h2
          cases r1 with
          | cons r1 rr =>
            cases rr with
            | cons r2 rr =>
              cases rr
              cases r1
              cases r2
              exact ⟨i, j, rfl, by omega, q _ _ x1 m1 s1 goes_rng⟩
        · cases h2
      · cases h2
    · cases e
  · cases e
/-- the turns of the outer `for` -/
def lc2D (tg : FT) (t : FB) (fi1 : FI) (tg1 : FT) (t1 : FB) (fe : FE) (vs1 : List Nat) (r : En) : List D → MM → Option (List D × MM)
  | [], M => some ([], M)
  | d :: ds, M => match tg d r with
    | some r1 => match t r1 M with
      | some (true, M1) => match fi1 r1 M1 with
        | some (xs1, M2) => match lcD tg1 t1 fe (wipeD r1 vs1) xs1 M2 with
          | some (ys, M3) => match lc2D tg t fi1 tg1 t1 fe vs1 r ds M3 with
            | some (zs, M4) => some (ys ++ zs, M4)
            | none => none
          | none => none
        | none => none
      | some (false, M1) => lc2D tg t fi1 tg1 t1 fe vs1 r ds M1
      | none => none
    | none => none
def mLc2 (fi : FI) (tg : FT) (t : FB) (fi1 : FI) (tg1 : FT) (t1 : FB) (fe : FE) (vs vs1 : List Nat) : FE := fun r M => match fi r M with
  | some (xs, M1) => match lc2D tg t fi1 tg1 t1 fe vs1 (wipeD r vs) xs M1 with
    | some (ys, M2) => if ys.length ≤ 1000 then some (.lst ys, M2) else none
    | none => none
  | none => none
theorem rvs_lift {H H' : Hp} {ms ex : List Addr} (k : ∀ {v : V} {d : D}, RV K H ms ex v d → RV K H' ms ex v d) : ∀ {v : List V} {d : List D}, RVs K H ms ex v d → RVs K H' ms ex v d
  | _, [], h => by cases h; exact .nil
  | _, _ :: _, h => by
    cases h with
    | cons a b => exact .cons (k a) (rvs_lift k b)
theorem mt_lc2 {wi wi1 : TI} {fi fi1 : FI} {σ : L2.St} {Q : VK} (it : ItOk tb K wi fi) (it1 : ItOk tb K wi1 fi1) (h : eM tb K (mLc2 fi ft fb fi1 ft1 fb1 fe vs vs1) σ H Q) :
    tLc2 wi (gW K vs ft) (bM tb K fb) wi1 (gW K vs1 ft1) (bM tb K fb1) (eM tb K fe) vs vs1 σ H Q := by
  obtain ⟨ms, ex, r, M, o, M', m0, s0, e, q⟩ := h
  unfold mLc2 at e
  split at e
  · rename_i xs M1 h1
    split at e
    · rename_i ys Me h2
      split at e
      · rename_i hl
        cases e
        refine it m0 s0 h1 fun J H1 x1 m s gs p hp => ?_
        obtain ⟨np1, np2⟩ := fresh_ms m hp
        let W : Nat → Nat → Hp → Prop := fun i k H2 => k = xs.length - i ∧ i ≤ xs.length ∧ ∃ Mi aV aD rest, Ext ms H1 H2 ∧ RM tb K H2 ms (p :: ex) Mi ∧ H2 p = some (.lst aV) ∧ RVs K H2 ms (p :: ex) aV aD ∧
          lc2D ft fb fi1 ft1 fb1 fe vs1 (wipeD r vs) (xs.drop i) Mi = some (rest, M') ∧ aD ++ rest = ys
        refine ⟨W, ⟨xs.length, by omega, Nat.zero_le _, M1, [], [], ys, Ext.of (same_new hp), lock_new m hp, upd_same, .nil, h2, rfl⟩, ?_⟩
        rintro i k H2 ⟨hk, hi, Mi, aV, aD, rest, x2, m2, ep, ra, ee, hy⟩
        by_cases hlt : i < xs.length
        · obtain ⟨hg, hyl⟩ := gs.go i H2 xs[i] x2.e (List.getElem?_eq_getElem hlt)
          rw [List.drop_eq_getElem_cons hlt] at ee
          unfold lc2D at ee
          split at ee
          · rename_i r2 h3
            refine .inr ⟨hg, W (i + 1) (xs.length - (i + 1)), fun H' hN => ⟨xs.length - (i + 1), by omega, hN⟩, fun x H3 hx => ?_⟩
            obtain ⟨eH, rv⟩ := hyl x H3 hx
            subst eH
            have s2 : Sl K H3 ms (p :: ex) (L2.wipe σ vs) (wipeD r vs) := (s.wipe vs).lock m hp x2
            refine ⟨ms, p :: ex, _, xs[i], r2, s2, rv.lock m hp x2, h3, fun σ2 s3 w3 => ⟨w3.trans (wipe_wipe vs σ), ?_⟩⟩
            split at ee
            · rename_i M2 h4
              refine bM.use m2 s3 h4 fun H4 x4 m4 s4 => iteT ?_
              split at ee
              · rename_i xs1 M3 h5
                refine it1 m4 s4 h5 fun J1 H5 x5 m5 s5 gs1 => ?_
                split at ee
                · rename_i ys1 M4 h6
                  split at ee
                  · rename_i zs M5 h7
                    cases ee
                    have x25 := (x2.trans x4).trans x5
                    have ep5 : H5 p = some (.lst aV) := x5 p _ (x4 p _ ep np1 fun _ z => by cases z) np1 fun _ z => by cases z
                    have ra5 := (ra.ext m2 x4).ext m4 x5
                    let W1 : Nat → Nat → Hp → Prop := fun j k H6 => k = xs1.length - j ∧ j ≤ xs1.length ∧ ∃ Mj bV bD rest1, Ext ms H1 H6 ∧ ExtE ms (p :: ex) H5 H6 ∧ RM tb K H6 ms (p :: ex) Mj ∧ Sl K H6 ms (p :: ex) σ2 r2 ∧ H6 p = some (.lst bV) ∧ RVs K H6 ms (p :: ex) bV bD ∧
                      (∀ v d, RV K H5 ms (p :: ex) v d → RV K H6 ms (p :: ex) v d) ∧ lcD ft1 fb1 fe (wipeD r2 vs1) (xs1.drop j) Mj = some (rest1, M4) ∧ bD ++ rest1 = aD ++ ys1
                    refine ⟨W1, ⟨xs1.length, by omega, Nat.zero_le _, M3, aV, aD, ys1, x25, ⟨fun _ _ z _ _ _ => z⟩, m5, s5, ep5, ra5, fun _ _ z => z, h6, rfl⟩, ?_⟩
                    rintro j k2 H6 ⟨hk2, hj, Mj, bV, bD, rest1, x6, x56, m6, s6, ep6, rb, lf, ee1, hy1⟩
                    by_cases hlt1 : j < xs1.length
                    · obtain ⟨hg1, hyl1⟩ := gs1.go j H6 xs1[j] x56 (List.getElem?_eq_getElem hlt1)
                      rw [List.drop_eq_getElem_cons hlt1] at ee1
                      unfold lcD at ee1
                      split at ee1
                      · rename_i r3 h8
                        refine .inr ⟨hg1, W1 (j + 1) (xs1.length - (j + 1)), fun H' hN => ⟨xs1.length - (j + 1), by omega, hN⟩, fun x' H7 hx' => ?_⟩
                        obtain ⟨eH7, rv7⟩ := hyl1 x' H7 hx'
                        subst eH7
                        refine ⟨ms, p :: ex, _, xs1[j], r3, s6.wipe vs1, lf _ _ rv7, h8, fun σ3 s7 w7 => ⟨w7.trans (wipe_wipe vs1 σ2), ?_⟩⟩
                        split at ee1
                        · rename_i M6 h9
                          refine bM.use m6 s7 h9 fun H8 x8 m8 s8 => iteT ?_
                          split at ee1
                          · rename_i y M7 h10
                            refine eM.use m8 s8 h10 fun H9 v9 x9 m9 s9 r9 => ?_
                            split at ee1
                            · rename_i ws M8 h11
                              cases ee1
                              have x89 := x8.trans x9
                              have ep9 : H9 p = some (.lst bV) := x89 p _ ep6 np1 fun _ z => by cases z
                              obtain ⟨lg, mg⟩ := lock_growO (o := .lst (bV ++ [v9])) m9 (.inl ⟨_, upd_same⟩)
                              have few : bV.length ≤ 999 := by
                                have e1 := congrArg List.length hy1
                                have e2 := congrArg List.length hy
                                have e3 := rb.length
                                simp only [List.length_append, List.length_cons] at e1 e2
                                omega
                              have up : ∀ {v : V} {d : D}, RV K H7 ms (p :: ex) v d → RV K (upd H9 p (.lst (bV ++ [v9]))) ms (p :: ex) v d := fun z => lg ((z.ext m6 x8).ext m8 x9)
                              refine ⟨bV, ep9, small1000 (by omega), rfl, hlt1, M7, bV ++ [v9], bD ++ [y], ws, (x6.trans x89).grow hp, (x56.ext x89).put List.mem_cons_self, mg, s6.lift up, upd_same, (rvs_lift up rb).append (.cons (lg r9) .nil), fun v d z => up (lf v d z), h11, ?_⟩
                              rw [List.append_assoc]
                              exact hy1
                            · cases ee1
                          · cases ee1
                        · rename_i M6 h9
                          refine bM.use m6 s7 h9 fun H8 x8 m8 s8 => iteF ?_
                          exact ⟨rfl, hlt1, M6, bV, bD, rest1, x6.trans x8, x56.ext x8, m8, s6.ext m6 x8, x8 p _ ep6 np1 (fun _ z => by cases z), rb.ext m6 x8, fun v d z => (lf v d z).ext m6 x8, ee1, hy1⟩
                        · cases ee1
                      · cases ee1
                    · have ej : j = xs1.length := by omega
                      subst ej
                      rw [List.drop_length] at ee1
                      cases ee1
                      rw [List.append_nil] at hy1
                      exact .inl ⟨gs1.stop H6 x56, rfl, hlt, M4, bV, bD, zs, x6, m6, ep6, rb, h7, by rw [hy1, List.append_assoc]; exact hy⟩
                  · cases ee
                · cases ee
              · cases ee
            · rename_i M2 h4
              refine bM.use m2 s3 h4 fun H4 x4 m4 s4 => iteF ?_
              exact ⟨rfl, hlt, M2, aV, aD, rest, x2.trans x4, m4, x4 p _ ep np1 (fun _ z => by cases z), ra.ext m2 x4, ee, hy⟩
            · cases ee
          · cases ee
        · have ei : i = xs.length := by omega
          subst ei
          rw [List.drop_length] at ee
          cases ee
          rw [List.append_nil] at hy
          subst hy
          obtain ⟨m3, r3⟩ := lock_end m2 np2 ep ra
          exact .inl ⟨gs.stop H2 x2.e, q H2 _ (x1.trans x2) m3 r3⟩
      · cases e
    · cases e
  · cases e
end NL

/-! HX3: tuple(e for x in s if ..), the parts quiet: what stands in the heap stays. -/
namespace HX
open PySem PySem.Spec PyProof.Rows L2 GxR
/-- the generator's code object, made now or before -/
theorem code_any {M : Model} {A : Around} {E : Value → Shared → Prop} {s : Shared} {env : Env} {c T : Addr} {ps : Array Value} {pos : Pos} {qn : Str} {scope : Scope} {Q : Value → Shared → Prop} (hc : env.code = .ref c) (cd : s.heap.IsCode c T ps) (ct : s.heap.TableAt c T ps)
    (tr : TriplesOk ps.toList) (q : ∀ code h' tk more, Heap.ExtBut T s.heap h' → s.heap.objs.size ≤ h'.objs.size → h'.get? T = some { cls := .none, data := .fields (ps ++ more) } → TriplesOk (ps ++ more).toList → Q code { s with heap := h', toks := tk }) :
    wpAny M A (genexprCode env pos qn scope) Q E s := by
  cases there : codeAmong pos ps.toList with
  | some old => exact wpAny_genexprCode_hit hc cd there (q old s.heap s.toks #[] (Heap.ExtBut.refl _ _) (Nat.le_refl _) (by simpa using ct.2) (by simpa using tr))
  | none =>
    refine wpAny_genexprCodeX hc cd ct there fun c' h' tk ext le lt is _ tab _ => ?_
    obtain ⟨_, _, _, _, _, _, _, _, _, _, _, _, _, _, _, _, _, _, _, triples, _⟩ := is
    exact q _ h' tk _ ext (Nat.le_trans le (Nat.le_of_lt lt)) tab.2 triples
/-- u can be walked: n items, the i-th as Pv says; the new iterator stands at the heap's end; T, the table of codes, is none of what is walked -/
def Source (P : Program) (w : World) (s : Shared) (T : Addr) (u : Value) (n : Nat) (Pv : Nat → Value → Prop) : Prop :=
  ∃ (o : Obj) (fp : List Addr) (St : Nat → Heap → Prop),
    (∀ (A : Around) (E : Value → Shared → Prop) (Q : Value → Shared → Prop), A.handled = none → Q (.ref s.heap.objs.size) { s with heap := s.heap.push o } → wpAny (model P w) A (pyIter u) Q E s) ∧
    (∀ A' : Around, A'.handled = none → Walks P w A' s.heap.objs.size (s.heap.objs.size :: fp) [s.heap.objs.size] n Pv St) ∧ St 0 (s.heap.push o) ∧ ∀ b ∈ fp, b < s.heap.objs.size ∧ b ≠ T
/-- the tests and the element at item i, in the generator's own frame: all that stood at s (but the iterator and the table) stands -/
def Quiet (X : Cx) (scope : Scope) (x : Str) (ifs : List Expr) (elt : Expr) (s : Shared) (T : Addr) (Pv : Nat → Value → Prop) (pz : Nat → Bool) (f : Nat → V) : Prop :=
  ∀ (env : Env) (A' : Around) (E' : Value → Shared → Prop) (i : Nat) (y : Value) (s₂ : Shared) (m₂ : Str → Option Value), env.scope = scope → env.cells = cloFrom X.env.cells scope.names [] → env.globals = X.env.globals → A'.handled = none → A'.depth ≤ X.A.depth + 1 → A'.units ≤ X.A.units + 8 → Pv i y → s₂.heap.Ns env.locals m₂ → m₂ x = some y →
    (∀ b o, b ≠ T → s.heap.get? b = some o → s₂.heap.get? b = some o) →
    wpAny (model X.prog X.w) A' (forIn ifs true fun c r => if r = true then do let ok ← isTrue c env (eval c env); pure (ForInStep.yield ok) else pure (ForInStep.yield r)) (fun ok s₃ => ok = pz i ∧ Keeps s₂ s₃) E' s₂ ∧
    (pz i = true → wpAny (model X.prog X.w) A' (eval elt env) (fun z s₃ => RelV (f i) z ∧ Keeps s₂ s₃) E' s₂)
section
variable {X : Cx}
def tTupG (X : Cx) (scope : Scope) (x : Str) (ifs : List Expr) (elt : Expr) (T : Addr) (te : TE) : TE := fun σ H Q => te σ H fun v H1 => TabG H1 T ∧ ∃ (n : Nat) (pz : Nat → Bool) (f : Nat → V), n ≤ sizeLine ∧
  (∀ pins s u, Inv X pins σ H1 s → RelV v u → ∃ Pv, Source X.prog X.w s T u n Pv ∧ Quiet X scope x ifs elt s T Pv pz f) ∧ ∀ H2 p, Tabbed T H1 H2 → H2 p = none → Q (.ref p) (upd H2 p (.tup ((passing pz n 0).map f)))
theorem vals_items {pz : Nat → Bool} {n : Nat} {f : Nat → V} {acc : Array Value} (h : ItemsOf (fun j y => ∃ i, (passing pz n 0)[j]? = some i ∧ RelV (f i) y) acc (passing pz n 0).length) : Vals ((passing pz n 0).map f) acc.toList := by
  have gen : ∀ (l : List Nat) (ys : List Value), ys.length = l.length → (∀ (j : Nat) (y : Value), ys[j]? = some y → ∃ i : Nat, l[j]? = some i ∧ RelV (f i) y) → Vals (l.map f) ys := by
    intro l
    induction l with
    | nil =>
      intro ys e _
      cases ys with
      | nil => exact .nil
      | cons y ys => cases e
    | cons i l ih =>
      intro ys e q
      cases ys with
      | nil => cases e
      | cons y ys =>
        obtain ⟨i', e1, r⟩ := q 0 y rfl
        cases e1
        exact .cons r (ih ys (by simpa using e) fun j z hz => q (j + 1) z hz)
  refine gen _ _ (by simpa using h.1) fun j y e => h.2 j y ?_
  rw [← Array.getElem?_toList]
  exact e
theorem pe_tupG {c T : Addr} {elt iter : Expr} {ifs : List Expr} {x : Str} {px p pos gpos : Pos} {scope : Scope} {te : TE} {k : Nat} (hr : Room k X.A) (hg : Gl X "tuple") (hm : X.mg "tuple" = none) (TB : TabB X.base X.mg c T) (hcode : X.env.code = .ref c) (S : GenS X.env scope x) (hi : PE X iter te)
    (fold : ∀ v, genFold iter X.env v = pure v)
    (he : starEach [.GeneratorExp elt [⟨.Name x px, iter, ifs, 0⟩] scope gpos] X.env = (false, eval (.GeneratorExp elt [⟨.Name x px, iter, ifs, 0⟩] scope gpos) X.env) :: starEach [] X.env := by rfl) :
    PE X (.Call (.Name "tuple" p) [.GeneratorExp elt [⟨.Name x px, iter, ifs, 0⟩] scope gpos] [] pos) (tTupG X scope x ifs elt T te) := by
  refine ⟨fun pins s σ H Q I h => ?_⟩
  refine Call_ (ld_blt I hg hm PyProof.Rows.boot_tuple (PyProof.Rows.callWith_type1 (PyProof.Rows.args_cons ?_ he) he rfl))
  refine wpAny_GeneratorExp_walksQD hr.hd S.co (closure_ok S.free) S.cell S.dot S.loc S.kind (by have := hr.dp; omega) ?_ fold
  refine thn (hi.run pins s σ H _ I h) fun u s1 got => ?_
  obtain ⟨v, H1, I1, r1, ⟨ps, hT, ht⟩, n, pz, f, hn, hw, fin⟩ := got
  obtain ⟨Pv, ⟨o, fp, St, iter1, W, st0, hfp⟩, quiet⟩ := hw pins s1 u I1 r1
  refine iter1 _ _ _ hr.hd ?_
  have atT : s1.heap.get? T = some { cls := .none, data := .fields ps } := I1.hok T _ hT
  have ltT : T < s1.heap.objs.size := Heap.lt_size atT
  have code2 : PySem.W.CodeHd (s1.heap.push o) c T := TB.code.keeps fun b z e => Heap.get?_push_of_some _ (I1.bk b z e)
  have atT2 : (s1.heap.push o).get? T = some { cls := .none, data := .fields ps } := Heap.get?_push_of_some _ atT
  have lim2 : (s1.heap.push o).NoLimit := I1.nolimit.push o
  refine ⟨lim2, ?_⟩
  refine code_any hcode (code2.code atT2 ht) (code2.tab atT2) ht fun code h3 tk more ext size3 atT3 ht3 => ?_
  obtain ⟨bm, ob, e1, e2, e3, e4, e5, e6, e7, e8⟩ := TB.bm
  have stays : ∀ b z, b ≠ T → s1.heap.get? b = some z → h3.get? b = some z := fun b z nb e => ext b z nb (Heap.get?_push_of_some _ e)
  have ltC : cStatics < s1.heap.objs.size := I1.nolimit.elim fun _ z => z.1.lt
  have neT : cStatics ≠ T := by
    obtain ⟨_, ns, _⟩ := I1.nolimit
    obtain ⟨o', es, ep, got, hd, _⟩ := ns
    intro e
    rw [e, atT] at got
    cases got
    cases hd
  have size2 : (s1.heap.push o).objs.size = s1.heap.objs.size + 1 := Heap.size_push ..
  refine wpAny_builtinsFor (m := X.mg) (by rw [I1.ok.glob]; exact ((I1.mod.glob.keeps I1.bk).push o).extBut ext TB.gP) e1 e2 (stays _ _ e4 (I1.bk _ _ e5)) e6 e7 e8 ?_
  have young : ∀ b ∈ s1.heap.objs.size :: fp, b ≠ T := by
    intro b hb
    rcases List.mem_cons.mp hb with z | z
    · rw [z]; exact (Nat.ne_of_lt ltT).symm
    · exact (hfp b z).2
  refine ⟨s1.heap.objs.size, s1.heap.objs.size :: fp, [s1.heap.objs.size], n, Pv, St, pz, fun i y => RelV (f i) y, rfl, W, ?_, ?_, lim2.extBut ext neT, ?_, ?_, ?_⟩
  · exact (W X.A hr.hd).frame _ _ _ st0 fun b hb z e => ext b z (young b hb) e
  · intro b hb
    have hb' : b < s1.heap.objs.size + 1 := by
      rcases List.mem_cons.mp hb with z | z
      · rw [z]; exact Nat.lt_succ_self _
      · exact Nat.lt_succ_of_lt (hfp b z).1
    exact Nat.lt_of_lt_of_le (size2 ▸ hb') size3
  · intro z
    exact absurd (List.mem_singleton.mp z) (Nat.ne_of_lt ltC)
  · intro href keep
    have kept : ∀ (s₂ : Shared), (∀ b ∈ List.range h3.objs.size, b ∉ [s1.heap.objs.size] → ∀ z, href.get? b = some z → s₂.heap.get? b = some z) → ∀ b z, b ≠ T → s1.heap.get? b = some z → s₂.heap.get? b = some z := by
      intro s₂ hk b z nb e
      have lt := Heap.lt_size e
      have e3 := stays b z nb e
      exact hk b (List.mem_range.mpr (Heap.lt_size e3)) (fun q => absurd (List.mem_singleton.mp q) (Nat.ne_of_lt lt)) z (keep b z e3)
    exact ⟨fun A' E' i y s₂ m₂ hA hd hu hy ns mx hk => (quiet _ A' E' i y s₂ m₂ rfl rfl (by rfl) hA hd hu hy ns mx (kept s₂ hk)).1,
      fun A' E' i y s₂ m₂ hA hd hu hy hp ns mx hk => (quiet _ A' E' i y s₂ m₂ rfl rfl (by rfl) hA hd hu hy ns mx (kept s₂ hk)).2 hp⟩
  · intro g h5 tk5 gs bare old5 size5 keep5 WS at0
    refine PyProof.Rows.args_nil ?_
    have few : (passing pz n 0).length ≤ sizeLine := by
      refine Nat.le_trans (List.length_filter_le _ _) ?_
      simpa using hn
    refine call_tuple_gen (hsz := few) WS.in4_3 (fun i s z => z.1.typeIs) at0 ?_ (List.mem_cons_self ..) fun s' acc hmv items => ?_
    · intro b hb
      have size5' : ({ s1 with heap := h5, gens := s1.gens.push gs, toks := tk5 } : Shared).heap.objs.size = g + 1 := size5
      rcases List.mem_cons.mp hb with z | z
      · rw [z]; exact size5' ▸ Nat.lt_succ_self _
      · rcases List.mem_cons.mp z with z | z
        · rw [z]; exact size5' ▸ Nat.lt_succ_of_lt old5
        · exact size5' ▸ Nat.lt_succ_of_lt (Nat.lt_trans (List.mem_range.mp z) old5)
    · have still : ∀ b z, s1.heap.get? b = some z → b ∉ h3.objs.size :: [s1.heap.objs.size] := by
        intro b z e q
        have lt := Heap.lt_size e
        rcases List.mem_cons.mp q with q | q
        · have lt3 : s1.heap.objs.size < h3.objs.size := Nat.lt_of_lt_of_le (size2 ▸ Nat.lt_succ_self _) size3
          exact absurd (q ▸ lt : (h3.objs.size : Nat) < s1.heap.objs.size) (Nat.not_lt.mpr (Nat.le_of_lt lt3))
        · exact absurd (List.mem_singleton.mp q) (Nat.ne_of_lt lt)
      have J := inv_tab (more := more) (h' := s'.heap) (g' := s'.gens) (d' := s'.drawn) (t' := s'.toks) I1 hT (fun b z nb e => hmv.heap b z (still b z e) (keep5 b z (stays b z nb e)))
        (hmv.heap T _ (still T _ atT) (keep5 T _ atT3)) (AllBare.movedS (I1.bare.push bare) hmv)
      rw [sh_eta s1 s' hmv.os] at J
      have rel := vals_items items
      have H2T : Tabbed T H1 (upd H1 T (.tbl (ps ++ more))) := ⟨⟨ps ++ more, upd_same, ht3⟩, fun b nb => upd_ne nb⟩
      have fresh := J.hok.fresh (Nat.le_refl s'.heap.objs.size)
      refine ⟨.ref s'.heap.objs.size, _, J.laid (t' := s'.toks) (o := .tup ((passing pz n 0).map f)) (fun b z e => Heap.get?_push_of_some _ e) (Nat.le_refl _) ?_, rfl, fin _ _ H2T fresh⟩
      exact ⟨by rw [List.length_map]; exact few, acc.toList, rel, by rw [Array.toArray_toList]; exact IsTup.new _ _⟩
end
end HX

/-! N11: a table of codes that grows; tuple(.. for ..) in the mirror; x.f. -/
namespace NL
open PySem PySem.Spec PyProof.Rows L2
variable {tb : List Addr} {K : PySem.W.Frag} {H H' H1 H2 : Hp} {ms ms' ex ex' : List Addr} {M M' M1 : MM} {T : Addr}
theorem tabbed_ext (m : RM tb K H ms ex M) (hT : T ∈ tb) (t : GxR.Tabbed T H H2) : Ext ms H H2 ∧ RM tb K H2 ms ex M := by
  obtain ⟨ps0, e0, _⟩ := m.tbs T hT
  have other : ∀ a o, H a = some o → (∀ ps, o ≠ .tbl ps) → H2 a = some o := fun a o e nt => by
    have ne : a ≠ T := fun z => by
      rw [z, e0] at e
      exact nt _ (Option.some.inj e).symm
    rw [t.2 a ne]
    exact e
  have x : Ext ms H H2 := by
    refine ⟨fun a o e _ nt => other a o e nt, fun a ps e _ => ?_⟩
    by_cases z : a = T
    · obtain ⟨ps', e', _⟩ := t.1
      exact ⟨ps', z ▸ e'⟩
    · exact ⟨ps, by rw [t.2 a z]; exact e⟩
  refine ⟨x, m.len, m.nd, fun n a d h1 h2 => (m.at_ n a d h1 h2).of (fun o e nt => other a o e nt) fun r => r.ext m x, fun b hb => ⟨(m.exs b hb).1, ?_⟩, fun b hb => ?_⟩
  · rcases (m.exs b hb).2 with ⟨xs, e⟩ | ⟨xs, e⟩ | ⟨xs, e⟩
    · exact .inl ⟨xs, other b _ e fun _ z => by cases z⟩
    · exact .inr (.inl ⟨xs, other b _ e fun _ z => by cases z⟩)
    · exact .inr (.inr ⟨xs, other b _ e fun _ z => by cases z⟩)
  · by_cases z : b = T
    · exact z ▸ t.1
    · obtain ⟨ps, e, ok⟩ := m.tbs b hb
      exact ⟨ps, by rw [t.2 b z]; exact e, ok⟩
/-- tuple(e for x in s if ..): what the generator goes over is d, what comes is ys -/
def mTupG (fi : FE) (step : En → MM → D → Option (List D)) : FE := fun r M => match fi r M with
  | some (d, M1) => match step r M1 d with
    | some ys => some (.tup ys, M1)
    | none => none
  | none => none
/-- the generator's turns keep to step -/
def StepOk (tb : List Addr) (X : Cx) (scope : Scope) (x : Str) (ifs : List Expr) (elt : Expr) (T : Addr) (step : En → MM → D → Option (List D)) : Prop :=
  ∀ {ms ex : List Addr} {H : Hp} {M : MM} {r : En} {σ : L2.St} {v : V} {d : D} {ys : List D}, RM tb X.K H ms ex M → Sl X.K H ms ex σ r → RV X.K H ms ex v d → step r M d = some ys →
    ∃ (n : Nat) (pz : Nat → Bool) (f : Nat → V), n ≤ sizeLine ∧ (∀ pins s u, Inv X pins σ H s → RelV v u → ∃ Pv, HX.Source X.prog X.w s T u n Pv ∧ HX.Quiet X scope x ifs elt s T Pv pz f) ∧ RVs X.K H ms ex ((passing pz n 0).map f) ys
theorem mt_tupG {X : Cx} {scope : Scope} {x : Str} {ifs : List Expr} {elt : Expr} {fi : FE} {step : En → MM → D → Option (List D)} (hT : T ∈ tb) (ok : StepOk tb X scope x ifs elt T step) {σ : L2.St} {Q : VK} (h : eM tb X.K (mTupG fi step) σ H Q) :
    HX.tTupG X scope x ifs elt T (eM tb X.K fi) σ H Q := by
  obtain ⟨ms, ex, r, M, d', M', m, s, e, q⟩ := h
  unfold mTupG at e
  split at e
  · rename_i d M1 h1
    split at e
    · rename_i ys h2
      cases e
      refine eM.use m s h1 fun H1 v1 x1 m1 s1 r1 => ?_
      obtain ⟨n, pz, f, hn, walk, rel⟩ := ok m1 s1 r1 h2
      refine ⟨m1.tbs T hT, n, pz, f, hn, walk, fun H2 p t hp => ?_⟩
      obtain ⟨x2, m2⟩ := tabbed_ext m1 hT t
      obtain ⟨x3, m3, r3⟩ := new_tup m2 hp (rel.ext m1 x2)
      exact q _ _ ((x1.trans x2).trans x3) m3 r3
    · cases e
  · cases e
/-! ### x.f -/
theorem lookup_ok {f : Str} : ∀ {ns : List Str} {vs : List V} {ds : List D} {d : D}, RVs K H ms ex vs ds → look ns ds f = some d → ∃ v, (ns.zip vs).lookup f = some v ∧ RV K H ms ex v d
  | [], _, _, _, _, e => by cases e
  | _ :: _, _, [], _, .nil, e => by cases e
  | k :: ns, _, _ :: _, d, .cons (v := v) (vs := vs) a b, e => by
    unfold look at e
    by_cases z : k = f
    · rw [if_pos z] at e
      cases e
      subst z
      exact ⟨v, by simp [List.lookup_cons], a⟩
    · rw [if_neg z] at e
      obtain ⟨w, h1, h2⟩ := lookup_ok b e
      refine ⟨w, ?_, h2⟩
      have nz : (f == k) = false := by
        rw [beq_eq_false_iff_ne]
        exact fun q => z q.symm
      show (((k, v) :: ns.zip vs).lookup f) = some w
      rw [List.lookup_cons, nz]
      exact h1
/-- x.f, x an instance of the class at C -/
def mFld (C : Addr) (f : Str) (fe : FE) : FE := fun r M => match fe r M with
  | some (.ins C' ns ds, M1) => if C' = C then match look ns ds f with
      | some d => some (d, M1)
      | none => none
    else none
  | _ => none
theorem me_fld {X : Cx} {e : Expr} {f : Str} {pos : Pos} {fe : FE} {C : Addr} (cl : Cls X.K C) (na : NoAttr X.K C f) (he : PE X e (eM tb X.K fe)) (hb : attributeBase e f X.env (eval e X.env) = eval e X.env := by rfl) : PE X (.Attribute e f pos) (eM tb X.K (mFld C f fe)) :=
  (pe_fld he hb).weak fun σ H Q h => by
    obtain ⟨ms, ex, r, M, d', M', m, s, e, q⟩ := h
    unfold mFld at e
    split at e
    · rename_i C' ns ds M1 h1
      split at e
      · rename_i ec
        subst ec
        split at e
        · rename_i d hd
          cases e
          refine eM.use m s h1 fun H1 v1 x1 m1 s1 r1 => ?_
          cases r1 with
          | ins q1 n1 n2 l rr =>
            obtain ⟨w, hw, rw'⟩ := lookup_ok rr hd
            exact ⟨_, _, _, _, w, rfl, q1, cl, na, hw, q _ _ x1 m1 rw'⟩
        · cases e
      · cases e
    · cases e
end NL

/-! N12: o.m(..), o an instance. -/
namespace NL
open PySem PySem.Spec PyProof.Rows L2
variable {tb : List Addr} {K : PySem.W.Frag} {H H' H1 H2 : Hp} {ms ms' ex ex' : List Addr} {M M' M1 : MM}
theorem lookup_no {α : Type} {f : Str} : ∀ {ns : List Str} {vs : List α}, f ∉ ns → (ns.zip vs).lookup f = none
  | [], _, _ => by simp
  | _ :: _, [], _ => rfl
  | k :: ns, v :: vs, h => by
    have nz : (f == k) = false := by
      rw [beq_eq_false_iff_ne]
      exact fun q => h (q ▸ List.mem_cons_self)
    show (((k, v) :: ns.zip vs).lookup f) = none
    rw [List.lookup_cons, nz]
    exact lookup_no fun z => h (List.mem_cons_of_mem _ z)
/-- o.m(..): the def is told the instance first -/
def mMeth (C : Addr) (m : Str) (gc : FC) (fo : FE) (fa : FA) : FE := fun r M => match fo r M with
  | some (.ins C' ns ds, M1) => if C' = C ∧ m ∉ ns then match fa r M1 with
      | some (as, M2) => gc (.ins C' ns ds :: as) M2
      | none => none
    else none
  | _ => none
theorem mt_meth {C : Addr} {m : Str} {n : Nat} {gc : FC} {fo : FE} {fa : FA} {E : XK} (hl : ∀ r M ds M', fa r M = some (ds, M') → ds.length = n) {σ : L2.St} {Q : VK} (h : eM tb K (mMeth C m gc fo fa) σ H Q) :
    tMeth C m (spM tb K (n + 1) gc) [] E (eM tb K fo) (aM tb K fa) σ H Q := by
  obtain ⟨ms, ex, r, M, d', M', m0, s, e, q⟩ := h
  unfold mMeth at e
  split at e
  · rename_i C' ns ds M1 h1
    split at e
    · rename_i hc
      obtain ⟨ec, hno⟩ := hc
      subst ec
      split at e
      · rename_i as M2 h2
        refine eM.use m0 s h1 fun H1 v1 x1 m1 s1 r1 => ?_
        cases r1 with
        | ins q1 n1 n2 l rr =>
          refine ⟨_, _, _, rfl, q1, lookup_no hno, ?_⟩
          refine aM.use m1 s1 h2 fun H2 v2 x2 m2 s2 r2 => ?_
          refine ⟨ms, ex, M2, _ :: as, d', M', m2, .cons ((RV.ins q1 n1 n2 l rr).ext m1 x2) ?_, ?_, e, fun H3 v3 x3 m3 r3 => q H3 v3 ((x1.trans x2).trans x3) m3 r3⟩
          · rw [List.append_nil]
            exact r2
          · exact congrArg (· + 1) (hl _ _ _ _ h2)
      · cases e
    · cases e
  · cases e
end NL

/-! N13: C(..), __init__ sets one field for each argument. -/
namespace NL
open PySem PySem.Spec PyProof.Rows L2
variable {tb : List Addr} {K : PySem.W.Frag} {H H' H1 H2 : Hp} {ms ms' ex ex' : List Addr} {M M' M1 : MM}
/-- what such an __init__ promises -/
def spI (C : Addr) (ns : List Str) : Sp := fun vs H Q _ => ∃ (x dx : Addr) (as : List V), vs = .ref x :: as ∧ as.length = ns.length ∧ H x = some (.ins C dx []) ∧ Q .non (upd H x (.ins C dx (ns.zip as)))
def mMake (C : Addr) (ns : List Str) (fa : FA) : FE := fun r M => match fa r M with
  | some (ds, M1) => if ns.length = ds.length then some (.ins C ns ds, M1) else none
  | none => none
theorem mt_make {C : Addr} {ns : List Str} {fa : FA} {E : XK} {σ : L2.St} {Q : VK} (h : eM tb K (mMake C ns fa) σ H Q) : tMake C (spI C ns) [] E (aM tb K fa) σ H Q := by
  obtain ⟨ms, ex, r, M, d', M', m, s, e, q⟩ := h
  unfold mMake at e
  split at e
  · rename_i ds M1 h1
    split at e
    · rename_i hl
      cases e
      refine aM.use m s h1 fun H1 v1 x1 m1 s1 r1 => fun x dx hx hd hne => ?_
      rw [List.append_nil]
      refine ⟨x, dx, v1, rfl, by rw [r1.length, hl], upd_same, rfl, ?_⟩
      rw [upd_upd]
      have sm1 := same_new (o := HO.own x) hd
      have hx1 : upd H1 dx (.own x) x = none := by
        rw [upd_ne (Ne.symm hne)]
        exact hx
      have sm2 := same_new (o := HO.ins C dx (ns.zip v1)) hx1
      have m2 := (m1.same sm1).same sm2
      obtain ⟨n1, n2⟩ := fresh_ms m1 hx
      have x2 : Ext ms H1 _ := (Ext.of sm1).trans (Ext.of sm2)
      exact q _ _ (x1.trans x2) m2 (.ins upd_same n1 n2 hl (r1.ext m1 x2))
    · cases e
  · cases e
end NL
namespace NL
open PySem PySem.Spec PyProof.Rows L2
/-! ### such an __init__, by its body -/
/-- self.f = p, field by field: the slot of p, the field -/
inductive InitB (X : Cx) : List Stmt → List (Nat × Str) → Prop
  | nil : InitB X [] []
  | cons {st : Stmt} {sts : List Stmt} {j : Nat} {f : Str} {l : List (Nat × Str)} : PS X st (sFld X.K (tVar 0) (tVar j) f) → InitB X sts l → InitB X (st :: sts) ((j, f) :: l)
def tInit (K : PySem.W.Frag) : List (Nat × Str) → TS
  | [] => tNext
  | (j, f) :: l => tSeq (sFld K (tVar 0) (tVar j) f) (tInit K l)
theorem InitB.pss {X : Cx} : ∀ {sts : List Stmt} {l : List (Nat × Str)}, InitB X sts l → PSs X sts (tInit X.K l)
  | _, _, .nil => pss_nil
  | _, _, .cons a b => pss_cons a b.pss
theorem putF_new {f : Str} {v : V} : ∀ {fs : List (Str × V)}, f ∉ fs.map (·.1) → putF f v fs = fs ++ [(f, v)]
  | [], _ => rfl
  | (g, x) :: r, h => by
    have ne : ¬ g = f := fun z => h (z ▸ List.mem_cons_self)
    unfold putF
    rw [if_neg ne, putF_new fun z => h (List.mem_cons_of_mem _ z)]
    rfl
theorem init_run {K : PySem.W.Frag} {C x dx : Addr} {σ : L2.St} {D : Ends} (cl : Cls K C) (h0 : σ[0]? = some (some (.ref x))) : ∀ {l : List (Nat × Str)} {as : List V} {fs : List (Str × V)} {H : Hp}, (∀ p ∈ l, NoAttr K C p.2) → as.length = l.length → (∀ k (hk : k < l.length) (ha : k < as.length), σ[(l[k]).1]? = some (some as[k])) →
    H x = some (.ins C dx fs) → (fs.map (·.1) ++ l.map (·.2)).Nodup → fs.length + l.length < 1000 → D.nx σ (upd H x (.ins C dx (fs ++ (l.map (·.2)).zip as))) → tInit K l D σ H
  | [], [], fs, H, _, _, _, e, _, _, q => by
    have same : upd H x (.ins C dx (fs ++ ([] : List Str).zip ([] : List V))) = H := by
      funext b
      by_cases z : b = x
      · rw [z, upd_same, e]
        simp
      · rw [upd_ne z]
    exact same ▸ q
  | (j, f) :: l, a :: as, fs, H, na, hl, at_, e, nd, few, q => by
    have new : f ∉ fs.map (·.1) := fun z => by
      have := (List.nodup_append.mp nd).2.2 f z f (by simp)
      exact this rfl
    refine ⟨a, at_ 0 (by simp) (by simp), .ref x, h0, x, C, dx, fs, rfl, e, cl, na (j, f) List.mem_cons_self, by simp at few; omega, ?_⟩
    rw [putF_new new]
    refine init_run (H := upd H x (.ins C dx (fs ++ [(f, a)]))) (fs := fs ++ [(f, a)]) cl h0 (fun p hp => na p (List.mem_cons_of_mem _ hp)) (by simpa using hl) (fun k hk ha => ?_) upd_same (by simpa using nd) (by simp at few ⊢; omega) ?_
    · exact at_ (k + 1) (by simp; omega) (by simp; omega)
    · rw [upd_upd]
      simpa using q
end NL

/-! N14: an __init__ that sets one field for each argument keeps to spI. -/
namespace NL
open PySem PySem.Spec PyProof.Rows L2
def idx : Nat → List Str → List (Nat × Str)
  | _, [] => []
  | i, f :: fs => (i, f) :: idx (i + 1) fs
theorem idx_len : ∀ (i : Nat) (fs : List Str), (idx i fs).length = fs.length
  | _, [] => rfl
  | i, _ :: fs => congrArg (· + 1) (idx_len (i + 1) fs)
theorem idx_snd : ∀ (i : Nat) (fs : List Str), (idx i fs).map (·.2) = fs
  | _, [] => rfl
  | i, f :: fs => congrArg (f :: ·) (idx_snd (i + 1) fs)
theorem idx_at : ∀ (i : Nat) (fs : List Str) (k : Nat) (h : k < (idx i fs).length), ((idx i fs)[k]).1 = i + k
  | _, [], k, h => by cases h
  | i, f :: fs, 0, _ => rfl
  | i, f :: fs, k + 1, h => by
    have := idx_at (i + 1) fs k (by simpa [idx] using h)
    show ((idx (i + 1) fs)[k]'_).1 = i + (k + 1)
    omega
theorem start_at {N : List Str} {vs : List V} {i : Nat} (h : i < vs.length) : (L2.start N vs)[i]? = some (some vs[i]) := by
  unfold L2.start
  rw [List.getElem?_append_left (by simpa using h)]
  simp [h]
variable {P : Program} {w : World} {K : PySem.W.Frag} {mg : Str → Option Value} {base : Heap}
theorem m_init {C : Addr} {flds : List Str} {x qual : Str} {st : Stmt} {q : Addr} {fd : FuncData} {N ps : List Str} {k : Nat} (F : Fun K x qual st q fd) (S : FnScope N ps (defScope st)) (cl : Cls K C) (na : ∀ f ∈ flds, NoAttr K C f) (nd : flds.Nodup) (hn : ps.length = flds.length + 1) (few : flds.length < 1000)
    (hb : ∀ (cdv : Value) (A : Around) (outer : List Env) (s : Shared) (H : Hp) (E : XK), Room k (A.deeper (envOfC qual (defScope st) s.heap.objs.size q cdv)) → InitB (cxOf CX0 P w K mg base N qual (defScope st) q cdv A outer s H E).nox (defBody st) (idx 1 flds)) :
    FnOk P w K mg base CX0 (k + 1) q fd ps (spI C flds) := by
  refine F.ok S (fun vs H Q E h => ?_) (fun cdv A outer s H vs Q E hr h => ⟨_, (hb cdv A outer s H E hr).pss, ?_⟩)
  · obtain ⟨x, dx, as, rfl, hl, _⟩ := h
    rw [List.length_cons, hl, hn]
  · obtain ⟨x, dx, as, rfl, hl, e, hq⟩ := h
    have hl2 : as.length = (idx 1 flds).length := by rw [idx_len]; exact hl
    refine init_run (fs := []) cl (start_at (by simp)) (fun p hp => na p.2 ?_) hl2 (fun i hi ha => ?_) e ?_ ?_ ?_
    · have := List.mem_map_of_mem (f := fun z : Nat × Str => z.2) hp
      rwa [idx_snd] at this
    · rw [idx_at 1 flds i hi, start_at (by simp; omega)]
      congr 2
      have : 1 + i = i + 1 := Nat.add_comm 1 i
      simp [this]
    · simpa [idx_snd] using nd
    · simpa [idx_len] using few
    · rw [idx_snd]
      exact hq
end NL

/-! N15: a thing made in a def, changed there, and told as it stands when the def ends. -/
namespace NL
open PySem PySem.Spec PyProof.Rows L2
variable {tb : List Addr} {K : PySem.W.Frag} {H H' H1 H2 : Hp} {ms ms' ex ex' : List Addr} {M M' M1 : MM}
mutual
/-- the n-th thing that may change is not in it -/
def clean (n : Nat) : D → Bool
  | .mu k => k != n
  | .tup xs => cleans n xs
  | .lst xs => cleans n xs
  | .fz xs => cleans n xs
  | .ct xs => cleans n xs
  | .dk _ xs => cleans n xs
  | .dt _ xs => cleans n xs
  | .ins _ _ xs => cleans n xs
  | .non => true
  | .bl _ => true
  | .int _ => true
  | .str _ => true
def cleans (n : Nat) : List D → Bool
  | [] => true
  | d :: ds => clean n d && cleans n ds
end
mutual
/-- the n-th thing told as o -/
def told (n : Nat) (o : D) : D → D
  | .mu k => if k = n then o else .mu k
  | .tup xs => .tup (tolds n o xs)
  | .lst xs => .lst (tolds n o xs)
  | .fz xs => .fz (tolds n o xs)
  | .ct xs => .ct (tolds n o xs)
  | .dk ks xs => .dk ks (tolds n o xs)
  | .dt ks xs => .dt ks (tolds n o xs)
  | .ins C ns xs => .ins C ns (tolds n o xs)
  | .non => .non
  | .bl b => .bl b
  | .int i => .int i
  | .str x => .str x
def tolds (n : Nat) (o : D) : List D → List D
  | [] => []
  | d :: ds => told n o d :: tolds n o ds
end
theorem tolds_len (n : Nat) (o : D) : ∀ ds : List D, (tolds n o ds).length = ds.length
  | [] => rfl
  | _ :: ds => congrArg (· + 1) (tolds_len n o ds)
section
variable {p : Addr}
theorem old_at {n : Nat} {a : Addr} (h : (ms ++ [p])[n]? = some a) (hn : n ≠ ms.length) : ms[n]? = some a := by
  by_cases l : n < ms.length
  · rwa [List.getElem?_append_left l] at h
  · have := (List.getElem?_eq_some_iff.mp h).1
    simp at this
    omega
mutual
theorem RV.clean : ∀ {v : V} {d : D}, NL.clean ms.length d = true → RV K H (ms ++ [p]) ex v d → RV K H ms ex v d
  | _, _, _, .non => .non
  | _, _, _, .bl b => .bl b
  | _, _, _, .int i => .int i
  | _, _, _, .str x => .str x
  | _, _, h, .tup s r => .tup s (RVs.clean h r)
  | _, _, h, .fz s r => .fz s (RVs.clean h r)
  | _, _, h, .ct s r => .ct s (RVs.clean h r)
  | _, _, h, .lst s n1 n2 r => .lst s (fun z => n1 (List.mem_append_left _ z)) n2 (RVs.clean h r)
  | _, _, h, .dk s n1 n2 l r => .dk s (fun z => n1 (List.mem_append_left _ z)) n2 l (RVs.clean h r)
  | _, _, h, .dt s n1 n2 l r => .dt s (fun z => n1 (List.mem_append_left _ z)) n2 l (RVs.clean h r)
  | _, _, h, .ins s n1 n2 l r => .ins s (fun z => n1 (List.mem_append_left _ z)) n2 l (RVs.clean h r)
  | _, .mu k, h, .mu e => .mu (old_at e (by simpa [NL.clean] using h))
theorem RVs.clean : ∀ {v : List V} {d : List D}, NL.cleans ms.length d = true → RVs K H (ms ++ [p]) ex v d → RVs K H ms ex v d
  | _, _, _, .nil => .nil
  | _, _, h, .cons a b => .cons (RV.clean (Bool.and_eq_true_iff.mp h).1 a) (RVs.clean (Bool.and_eq_true_iff.mp h).2 b)
end
/-- what it says when it may change no more -/
theorem Raw.still {o : D} (np : p ∉ ms) (nx : p ∉ ex) (c : NL.clean ms.length o = true) (h : Raw K H (ms ++ [p]) ex p o) : RV K H ms ex (.ref p) o := by
  cases h with
  | lst e r => exact .lst e np nx (r.clean c)
  | dk e l r => exact .dk e np nx l (r.clean c)
  | dt e l r => exact .dt (.inl e) np nx l (r.clean c)
theorem Raw.old {a : Addr} {o : D} (c : NL.clean ms.length o = true) (h : Raw K H (ms ++ [p]) ex a o) : Raw K H ms ex a o := by
  cases h with
  | lst e r => exact .lst e (r.clean c)
  | dk e l r => exact .dk e l (r.clean c)
  | dt e l r => exact .dt e l (r.clean c)
mutual
theorem RV.told {o : D} (ho : RV K H ms ex (.ref p) o) : ∀ {v : V} {d : D}, RV K H (ms ++ [p]) ex v d → RV K H ms ex v (NL.told ms.length o d)
  | _, _, .non => .non
  | _, _, .bl b => .bl b
  | _, _, .int i => .int i
  | _, _, .str x => .str x
  | _, _, .tup s r => .tup s (RVs.told ho r)
  | _, _, .fz s r => .fz s (RVs.told ho r)
  | _, _, .ct s r => .ct s (RVs.told ho r)
  | _, _, .lst s n1 n2 r => .lst s (fun z => n1 (List.mem_append_left _ z)) n2 (RVs.told ho r)
  | _, _, .dk s n1 n2 l r => .dk s (fun z => n1 (List.mem_append_left _ z)) n2 (by rw [tolds_len]; exact l) (RVs.told ho r)
  | _, _, .dt s n1 n2 l r => .dt s (fun z => n1 (List.mem_append_left _ z)) n2 (by rw [tolds_len]; exact l) (RVs.told ho r)
  | _, _, .ins s n1 n2 l r => .ins s (fun z => n1 (List.mem_append_left _ z)) n2 (by rw [tolds_len]; exact l) (RVs.told ho r)
  | _, .mu k, .mu (a := a) e => by
    show RV K H ms ex (.ref a) (if k = ms.length then o else .mu k)
    by_cases z : k = ms.length
    · subst z
      rw [if_pos rfl]
      have : a = p := by
        rw [List.getElem?_append_right (Nat.le_refl _)] at e
        simpa using e.symm
      exact this ▸ ho
    · rw [if_neg z]
      exact .mu (old_at e z)
theorem RVs.told {o : D} (ho : RV K H ms ex (.ref p) o) : ∀ {v : List V} {d : List D}, RVs K H (ms ++ [p]) ex v d → RVs K H ms ex v (NL.tolds ms.length o d)
  | _, _, .nil => .nil
  | _, _, .cons a b => .cons (RV.told ho a) (RVs.told ho b)
end
/-- the thing at p may change from now on -/
theorem RM.push {d : D} (m : RM tb K H ms ex M) (np : p ∉ ms) (nx : p ∉ ex) (lift : ∀ {v : V} {c : D}, RV K H ms ex v c → RV K H (ms ++ [p]) ex v c) (h : Raw K H (ms ++ [p]) ex p d) : RM tb K H (ms ++ [p]) ex (M ++ [d]) := by
  refine ⟨by simp [m.len], ?_, fun n a c h1 h2 => ?_, fun b hb => ⟨fun z => ?_, (m.exs b hb).2⟩, m.tbs⟩
  · rw [List.nodup_append]
    exact ⟨m.nd, by simp, fun a ha b hb z => np (by simp at hb; rw [← hb, ← z]; exact ha)⟩
  · by_cases z : n = ms.length
    · subst z
      rw [List.getElem?_append_right (Nat.le_refl _)] at h1
      rw [m.len, List.getElem?_append_right (Nat.le_refl _)] at h2
      simp at h1 h2
      subst h1 h2
      exact h
    · have h1' := old_at h1 z
      have hn : n < M.length := by rw [← m.len]; exact (List.getElem?_eq_some_iff.mp h1').1
      rw [List.getElem?_append_left hn] at h2
      exact (m.at_ n a c h1' h2).of (fun _ q _ => q) (rvs_any lift)
  · rcases List.mem_append.mp z with z | z
    · exact (m.exs b hb).1 z
    · have : b = p := by simpa using z
      exact nx (this ▸ hb)
where
  rvs_any {H : Hp} {ms ms' ex : List Addr} (k : ∀ {v : V} {d : D}, RV K H ms ex v d → RV K H ms' ex v d) : ∀ {v : List V} {d : List D}, RVs K H ms ex v d → RVs K H ms' ex v d
  | _, [], h => by cases h; exact .nil
  | _, _ :: _, h => by
    cases h with
    | cons a b => exact .cons (k a) (rvs_any k b)
/-- and no more -/
theorem RM.pop {N : MM} (m : RM tb K H (ms ++ [p]) ex N) (c : (N.take ms.length).all (NL.clean ms.length) = true) : RM tb K H ms ex (N.take ms.length) := by
  have hl := m.len
  simp at hl
  refine ⟨by rw [List.length_take]; omega, (List.nodup_append.mp m.nd).1, fun n a d h1 h2 => ?_, fun b hb => ⟨fun z => (m.exs b hb).1 (List.mem_append_left _ z), (m.exs b hb).2⟩, m.tbs⟩
  have hn : n < ms.length := (List.getElem?_eq_some_iff.mp h1).1
  have cd : NL.clean ms.length d = true := List.all_eq_true.mp c d (List.mem_of_getElem? h2)
  rw [List.getElem?_take_of_lt hn] at h2
  exact (m.at_ n a d (by rw [List.getElem?_append_left hn]; exact h1) h2).old cd
end
end NL

/-! N16: y = (a thing made anew), which the rest of the def may change. -/
namespace NL
open PySem PySem.Spec PyProof.Rows L2
variable {tb : List Addr} {K : PySem.W.Frag} {H H' H1 H2 : Hp} {ms ms' ex ex' : List Addr} {M M' M1 : MM}
theorem rvs_up {H H' : Hp} {ms ms' ex ex' : List Addr} (k : ∀ {v : V} {d : D}, RV K H ms ex v d → RV K H' ms' ex' v d) : ∀ {v : List V} {d : List D}, RVs K H ms ex v d → RVs K H' ms' ex' v d
  | _, [], h => by cases h; exact .nil
  | _, _ :: _, h => by
    cases h with
    | cons a b => exact .cons (k a) (rvs_up k b)
/-- a thing made anew: from now on it may change -/
def nM (tb : List Addr) (K : PySem.W.Frag) (f : FE) : TE := fun σ H Q => ∃ ms ex r M d M', RM tb K H ms ex M ∧ Sl K H ms ex σ r ∧ f r M = some (d, M') ∧
  ∀ H' p, Ext ms H H' → H p = none → RM tb K H' (ms ++ [p]) ex (M' ++ [d]) → Q (.ref p) H'
def mNew (i : Nat) (f : FE) (g : FS) : FS := fun r M => match f r M with
  | some (d, M1) => match g (r.set i (some (.mu M1.length))) (M1 ++ [d]) with
    | some (.rt v, M2) => match M2[M1.length]? with
      | some o => if (NL.clean M1.length o && (M2.take M1.length).all (NL.clean M1.length)) = true then some (.rt (NL.told M1.length o v), M2.take M1.length) else none
      | none => none
    | _ => none
  | none => none
theorem mt_new {i : Nat} {f : FE} {g : FS} {D : Ends} {σ : L2.St} (h : sM tb K (mNew i f g) D σ H) : tSeq (tAsg (nM tb K f) (gName i)) (sM tb K g) D σ H := by
  obtain ⟨ms, ex, r, M, o, M', m, s, e, q⟩ := h
  unfold mNew at e
  split at e
  · rename_i d M1 h1
    split at e
    · rename_i v M2 h2
      split at e
      · rename_i o h3
        split at e
        · rename_i hc
          cases e
          obtain ⟨c1, c2⟩ := Bool.and_eq_true_iff.mp hc
          refine ⟨ms, ex, r, M, d, M1, m, s, h1, fun H1 p x1 hp m1 => ?_⟩
          have hlen : ms.length = M1.length := by
            have := m1.len
            simp at this
            exact this
          obtain ⟨np0, nx⟩ := fresh_ms m hp
          refine ⟨ms ++ [p], ex, r.set i (some (.mu M1.length)), M1 ++ [d], .rt v, M2, m1, ?_, h2, fun H2 x2 m2 w rw' => ?_⟩
          · have s1 : Sl K H1 (ms ++ [p]) ex σ r := ⟨s.len, fun j d' ej => by
              obtain ⟨w, g1, g2⟩ := s.at_ j d' ej
              exact ⟨w, g1, push_rv m hp x1 g2⟩⟩
            exact s1.set (.mu (by rw [← hlen, List.getElem?_append_right (Nat.le_refl _)]; simp))
          · rw [← hlen] at c1 c2 h3 q
            have m3 := m2.pop c2
            have raw := m2.at_ ms.length p o (by rw [List.getElem?_append_right (Nat.le_refl _)]; simp) h3
            have ho := raw.still np0 nx c1
            have out : ∀ b u, H b = some u → b ∉ ms → b ∉ ms ++ [p] := fun b u eb nb z => by
              rcases List.mem_append.mp z with z | z
              · exact nb z
              · have : b = p := by simpa using z
                rw [this, hp] at eb
                cases eb
            have x : Ext ms H H2 := ⟨fun b u eb nb t => x2 b u (x1 b u eb nb t) (out b u eb nb) t, fun b ps eb nb => by
              obtain ⟨ps', y⟩ := x1.tab b ps eb nb
              exact x2.tab b ps' y (out b _ eb nb)⟩
            exact q H2 x m3 w (RV.told ho rw')
        · cases e
      · cases e
    · cases e
  · cases e
/-- [..] made anew -/
theorem nm_lst {X : Cx} {es : List Expr} {pos : Pos} {fa : FA} (h : PA X es (aM tb X.K fa)) (hn : ∀ r M ds M', fa r M = some (ds, M') → ds.length ≤ 1000) : PE X (.List es pos) (nM tb X.K (mLst fa)) :=
  (pe_lst h).weak fun σ H Q h => by
    obtain ⟨ms, ex, r, M, d', M', m, s, e, q⟩ := h
    unfold mLst at e
    split at e
    · rename_i ds M1 h1
      cases e
      refine aM.use m s h1 fun H1 v1 x1 m1 s1 r1 => ⟨r1.small (hn _ _ _ _ h1), fun p hp => ?_⟩
      have sm := same_new (o := .lst v1) hp
      obtain ⟨n1, n2⟩ := fresh_ms m1 hp
      have hp0 : H p = none := x1.gone n1 hp
      have up : ∀ {v : V} {c : D}, RV X.K H1 ms ex v c → RV X.K (upd H1 p (.lst v1)) (ms ++ [p]) ex v c := fun z => push_rv m1 hp (Ext.of sm) z
      refine q _ p (x1.trans (Ext.of sm)) hp0 ⟨by simp [m1.len], ?_, fun n a c e1 e2 => ?_, fun b hb => ⟨fun z => ?_, (m1.exs b hb).2.same sm⟩, fun b hb => ?_⟩
      · rw [List.nodup_append]
        exact ⟨m1.nd, by simp, fun a ha b hb z => n1 (by simp at hb; rw [← hb, ← z]; exact ha)⟩
      · by_cases z : n = ms.length
        · subst z
          rw [List.getElem?_append_right (Nat.le_refl _)] at e1
          rw [m1.len, List.getElem?_append_right (Nat.le_refl _)] at e2
          simp at e1 e2
          subst e1 e2
          exact .lst upd_same (rvs_up up r1)
        · have e1' := old_at e1 z
          have hn := m1.len ▸ (List.getElem?_eq_some_iff.mp e1').1
          rw [List.getElem?_append_left hn] at e2
          exact (m1.at_ n a c e1' e2).of (fun _ q _ => sm _ _ q) (rvs_up up)
      · rcases List.mem_append.mp z with z | z
        · exact (m1.exs b hb).1 z
        · have : b = p := by simpa using z
          exact n2 (this ▸ hb)
      · obtain ⟨ps, e, t⟩ := m1.tbs b hb
        exact ⟨ps, sm _ _ e, t⟩
    · cases e
end NL

/-! N17: a dict made anew by a comprehension. -/
namespace NL
open PySem PySem.Spec PyProof.Rows L2
variable {tb : List Addr} {K : PySem.W.Frag} {H H' H1 H2 : Hp} {ms ms' ex ex' : List Addr} {M M' M1 : MM} {p : Addr}
variable {f fk fe : FE} {fb : FB} {ft : FT} {vs : List Nat}
theorem not_in {a : Addr} (h1 : a ∉ ms) (h2 : a ∉ p :: ex) : a ∉ ms ++ [p] ∧ a ∉ ex := by
  refine ⟨fun z => ?_, fun z => h2 (List.mem_cons_of_mem _ z)⟩
  rcases List.mem_append.mp z with z | z
  · exact h1 z
  · have : a = p := by simpa using z
    exact h2 (this ▸ List.mem_cons_self)
mutual
/-- the thing in making, made -/
theorem RV.made : ∀ {v : V} {d : D}, RV K H ms (p :: ex) v d → RV K H (ms ++ [p]) ex v d
  | _, _, .non => .non
  | _, _, .bl b => .bl b
  | _, _, .int i => .int i
  | _, _, .str x => .str x
  | _, _, .tup s r => .tup s (RVs.made r)
  | _, _, .fz s r => .fz s (RVs.made r)
  | _, _, .ct s r => .ct s (RVs.made r)
  | _, _, .lst s n1 n2 r => .lst s (not_in n1 n2).1 (not_in n1 n2).2 (RVs.made r)
  | _, _, .dk s n1 n2 l r => .dk s (not_in n1 n2).1 (not_in n1 n2).2 l (RVs.made r)
  | _, _, .dt s n1 n2 l r => .dt s (not_in n1 n2).1 (not_in n1 n2).2 l (RVs.made r)
  | _, _, .ins s n1 n2 l r => .ins s (not_in n1 n2).1 (not_in n1 n2).2 l (RVs.made r)
  | _, _, .mu e => .mu (by rw [List.getElem?_append_left (List.getElem?_eq_some_iff.mp e).1]; exact e)
theorem RVs.made : ∀ {v : List V} {d : List D}, RVs K H ms (p :: ex) v d → RVs K H (ms ++ [p]) ex v d
  | _, _, .nil => .nil
  | _, _, .cons a b => .cons (RV.made a) (RVs.made b)
end
theorem Raw.made {a : Addr} {d : D} (h : Raw K H ms (p :: ex) a d) : Raw K H (ms ++ [p]) ex a d := by
  cases h with
  | lst e r => exact .lst e r.made
  | dk e l r => exact .dk e l r.made
  | dt e l r => exact .dt e l r.made
theorem RM.made {d : D} (m : RM tb K H ms (p :: ex) M) (nx : p ∉ ex) (h : Raw K H ms (p :: ex) p d) : RM tb K H (ms ++ [p]) ex (M ++ [d]) := by
  have np := (m.exs p List.mem_cons_self).1
  refine ⟨by simp [m.len], ?_, fun n a c e1 e2 => ?_, fun b hb => ⟨fun z => ?_, (m.exs b (List.mem_cons_of_mem _ hb)).2⟩, m.tbs⟩
  · rw [List.nodup_append]
    exact ⟨m.nd, by simp, fun a ha b hb z => np (by simp at hb; rw [← hb, ← z]; exact ha)⟩
  · by_cases z : n = ms.length
    · subst z
      rw [List.getElem?_append_right (Nat.le_refl _)] at e1
      rw [m.len, List.getElem?_append_right (Nat.le_refl _)] at e2
      simp at e1 e2
      subst e1 e2
      exact h.made
    · have e1' := old_at e1 z
      have hn := m.len ▸ (List.getElem?_eq_some_iff.mp e1').1
      rw [List.getElem?_append_left hn] at e2
      exact (m.at_ n a c e1' e2).made
  · rcases List.mem_append.mp z with z | z
    · exact (m.exs b (List.mem_cons_of_mem _ hb)).1 z
    · have : b = p := by simpa using z
      exact nx (this ▸ hb)
/-- {k: v for ..} made anew, over a list, over a tuple -/
theorem nt_dcL {u0 : HO} {o0 : D} {σ : L2.St} {Q : VK} (n0 : New0 u0 o0) (h : nM tb K (mDc o0 itemsL f ft fb fk fe vs) σ H Q) : HX.tDx u0 (iList K (eM tb K f)) (gW K vs ft) (bM tb K fb) (eM tb K fk) (eM tb K fe) vs σ H Q := by
  obtain ⟨ms, ex, r, M, o, M', m, s, e, q⟩ := h
  unfold mDc at e
  split at e
  · rename_i d M1 h1
    split at e
    · rename_i xs h2
      refine eM.use m s h1 fun H1 v1 x1 m1 s1 r1 => ?_
      unfold itemsL at h2
      split at h2
      · cases h2
        cases r1 with
        | lst sq n1 n2 rr => exact ⟨_, rfl, ⟨_, SqL.of sq⟩, dc_rd0 n0 m1 s1 e (fun p H2 hp x2 m2 raw => q H2 p (x1.trans x2) (x1.gone (fresh_ms m1 hp).1 hp) (m2.made (fresh_ms m1 hp).2 raw)) (fun i H' d x hd => itl_go0 m1 sq n1 rr i H' d x hd) (fun H' x => itl_stop sq n1 rr H' x)⟩
      · cases h2
    · cases e
  · cases e
theorem nt_dcT {u0 : HO} {o0 : D} {σ : L2.St} {Q : VK} (n0 : New0 u0 o0) (h : nM tb K (mDc o0 itemsT f ft fb fk fe vs) σ H Q) : HX.tDx u0 (iTup K (eM tb K f)) (gW K vs ft) (bM tb K fb) (eM tb K fk) (eM tb K fe) vs σ H Q := by
  obtain ⟨ms, ex, r, M, o, M', m, s, e, q⟩ := h
  unfold mDc at e
  split at e
  · rename_i d M1 h1
    split at e
    · rename_i xs h2
      refine eM.use m s h1 fun H1 v1 x1 m1 s1 r1 => ?_
      unfold itemsT at h2
      split at h2
      · cases h2
        cases r1 with
        | tup sq rr => exact ⟨_, rfl, ⟨_, SqT.of sq⟩, dc_rd0 n0 m1 s1 e (fun p H2 hp x2 m2 raw => q H2 p (x1.trans x2) (x1.gone (fresh_ms m1 hp).1 hp) (m2.made (fresh_ms m1 hp).2 raw)) (fun i H' d x hd => itt_go0 m1 (SqT.of sq) rr i H' d x hd) (fun H' x => itt_stop m1 (SqT.of sq) rr H' x)⟩
      · cases h2
    · cases e
  · cases e
end NL

/-! N18: {} made anew. -/
namespace NL
open PySem PySem.Spec PyProof.Rows L2
variable {tb : List Addr} {K : PySem.W.Frag} {H H' H1 H2 : Hp} {ms ms' ex ex' : List Addr} {M M' M1 : MM} {p : Addr}
/-- a new thing at p -/
theorem RM.anew {o : HO} {d : D} (m : RM tb K H ms ex M) (hp : H p = none) (h : Raw K (upd H p o) ms (p :: ex) p d) : RM tb K (upd H p o) (ms ++ [p]) ex (M ++ [d]) :=
  (lock_newO m hp h.thing).made (fresh_ms m hp).2 h
def mNewD (o0 : D) : FE := fun _ M => some (o0, M)
theorem nt_dic {u0 : HO} {o0 : D} (n0 : New0 u0 o0) {σ : L2.St} {Q : VK} (h : nM tb K (mNewD o0) σ H Q) : ∀ a, H a = none → Q (.ref a) (upd H a u0) := by
  intro a ha
  obtain ⟨ms, ex, r, M, o, M', m, s, e, q⟩ := h
  cases e
  exact q _ a (Ext.of (same_new ha)) ha (m.anew ha n0.raw)
end NL
namespace NL
open PySem PySem.Spec PyProof.Rows L2
variable {tb : List Addr} {K : PySem.W.Frag} {H : Hp} {ms ex : List Addr} {M : MM}
/-- o.append(e), o a list that may change -/
def mApp (M : MM) (o d : D) : Option MM := match o with
  | .mu n => match M[n]? with
    | some (.lst ds) => if ds.length ≤ 1000 then some (M.set n (.lst (ds ++ [d]))) else none
    | _ => none
  | _ => none
theorem app_ok {o d : D} {x y : V} {N : MM} (m : RM tb K H ms ex M) (rx : RV K H ms ex x o) (ry : RV K H ms ex y d) (e : mApp M o d = some N) {Q : VK} (q : ∀ H', Ext ms H H' → RM tb K H' ms ex N → Q .non H') : rAppend x [y] H Q := by
  unfold mApp at e
  split at e
  · rename_i n
    split at e
    · rename_i ds h1
      split at e
      · rename_i hl
        cases e
        cases rx with
        | mu e1 =>
          cases m.at_ _ _ _ e1 h1 with
          | lst sq rr =>
            have few := rr.length
            obtain ⟨x1, m1⟩ := m.store e1 (List.getElem?_eq_some_iff.mp h1).1 (fun _ z => by cases z) (.inl ⟨_, sq⟩) fun x => .lst upd_same ((rr.append (.cons ry .nil)).ext m x)
            exact ⟨_, _, y, rfl, rfl, sq, small1000 (by omega), q _ x1 m1⟩
      · cases e
    · cases e
  · cases e
end NL

/-! N19: list(range(..)), tuple(range(..)), t[::-1]. -/
namespace NL
open PySem PySem.Spec PyProof.Rows L2
variable {tb : List Addr} {K : PySem.W.Frag} {H H' H1 : Hp} {ms ms' ex ex' : List Addr} {M M' M1 : MM}
variable {X : Cx} {pos p2 p p1 p3 : Pos} {a b : Expr} {f g : FE} {fa : FA}
theorem rgV_rv (i j : Int) : RVs K H ms ex (rgV i j) (rangeD i (j - i).toNat) := by
  have := RVs.of_ints (K := K) (H := H) (ms := ms) (ex := ex) ((List.range (j - i).toNat).map fun k => i + (k : Nat))
  rw [List.map_map, List.map_map] at this
  exact this
/-- the ends of range(e), range(e, e') -/
def mEnd1 (f : FE) : En → MM → Option ((Int × Int) × MM) := fun r M => match f r M with
  | some (.int j, M1) => if j.natAbs ≤ 1000 then some ((0, j), M1) else none
  | _ => none
def mEnd2 (f g : FE) : En → MM → Option ((Int × Int) × MM) := fun r M => match f r M with
  | some (.int i, M1) => match g r M1 with
    | some (.int j, M2) => if i.natAbs ≤ 1000 ∧ j.natAbs ≤ 1000 then some ((i, j), M2) else none
    | _ => none
  | _ => none
abbrev TRg := L2.St → Hp → (Int → Int → Hp → Prop) → Prop
def EndOk (tb : List Addr) (K : PySem.W.Frag) (te : TRg) (fe : En → MM → Option ((Int × Int) × MM)) : Prop := ∀ {ms ex : List Addr} {H : Hp} {M M1 : MM} {r : En} {σ : L2.St} {i j : Int} {Φ : Int → Int → Hp → Prop}, RM tb K H ms ex M → Sl K H ms ex σ r → fe r M = some ((i, j), M1) →
  (∀ H1, Ext ms H H1 → RM tb K H1 ms ex M1 → Sl K H1 ms ex σ r → RgOk i j → (j - i).toNat ≤ 2000 → Φ i j H1) → te σ H Φ
theorem end_1 : EndOk tb K (tRg1 (eM tb K f)) (mEnd1 f) := by
  intro ms ex H M M1 r σ i j Φ m s e q
  unfold mEnd1 at e
  split at e
  · rename_i j' M2 h1
    split at e
    · rename_i hb
      cases e
      refine eM.use m s h1 fun H1 v1 x1 m1 s1 r1 => ?_
      cases r1
      exact ⟨_, rfl, q H1 x1 m1 s1 ⟨by omega, by omega, by omega, by omega, by omega⟩ (by omega)⟩
    · cases e
  · cases e
theorem end_2 : EndOk tb K (tRg2 (eM tb K f) (eM tb K g)) (mEnd2 f g) := by
  intro ms ex H M M1 r σ i j Φ m s e q
  unfold mEnd2 at e
  split at e
  · rename_i i' M2 h1
    split at e
    · rename_i j' M3 h2
      split at e
      · rename_i hb
        cases e
        refine eM.use m s h1 fun H1 v1 x1 m1 s1 r1 => ?_
        cases r1
        refine eM.use m1 s1 h2 fun H2 v2 x2 m2 s2 r2 => ?_
        cases r2
        exact ⟨_, _, rfl, rfl, q H2 (x1.trans x2) m2 s2 ⟨by omega, by omega, by omega, by omega, by omega⟩ (by omega)⟩
      · cases e
    · cases e
  · cases e
def mLstR (fe : En → MM → Option ((Int × Int) × MM)) : FE := fun r M => match fe r M with
  | some ((i, j), M1) => some (.lst (rangeD i (j - i).toNat), M1)
  | none => none
def mTupR (fe : En → MM → Option ((Int × Int) × MM)) : FE := fun r M => match fe r M with
  | some ((i, j), M1) => some (.tup (rangeD i (j - i).toNat), M1)
  | none => none
theorem me_lstR {te : TRg} {fe} {e : Expr} (hc : X.calm = true) (hg : Gl X "list") (hm : X.mg "list" = none) (hE : EndOk tb X.K te fe) (he : PRg X e te) (na : starEach [e] X.env = (false, eval e X.env) :: starEach [] X.env := by rfl) :
    PE X (.Call (.Name "list" p) [e] [] pos) (eM tb X.K (mLstR fe)) := (pe_listRg hc hg hm he na).weak fun σ H Q h => by
  obtain ⟨ms, ex, r, M, d', M', m, s, e, q⟩ := h
  unfold mLstR at e
  split at e
  · rename_i i j M1 h1
    cases e
    refine hE m s h1 fun H1 x1 m1 s1 ok _ => ⟨ok, fun l hl => ?_⟩
    obtain ⟨x2, m2, r2⟩ := new_lst m1 hl (rgV_rv i j)
    exact q _ _ (x1.trans x2) m2 r2
  · cases e
theorem me_tupR {te : TRg} {fe} {e : Expr} (hc : X.calm = true) (hg : Gl X "tuple") (hm : X.mg "tuple" = none) (hE : EndOk tb X.K te fe) (he : PRg X e te) (na : starEach [e] X.env = (false, eval e X.env) :: starEach [] X.env := by rfl) :
    PE X (.Call (.Name "tuple" p) [e] [] pos) (eM tb X.K (mTupR fe)) := (pe_tupRg hc hg hm he na).weak fun σ H Q h => by
  obtain ⟨ms, ex, r, M, d', M', m, s, e, q⟩ := h
  unfold mTupR at e
  split at e
  · rename_i i j M1 h1
    cases e
    refine hE m s h1 fun H1 x1 m1 s1 ok _ => ⟨ok, fun l hl => ?_⟩
    obtain ⟨x2, m2, r2⟩ := new_tup m1 hl (rgV_rv i j)
    exact q _ _ (x1.trans x2) m2 r2
  · cases e
/-- .. made anew: it may change from now on -/
theorem nm_lstR {te : TRg} {fe} {e : Expr} (hc : X.calm = true) (hg : Gl X "list") (hm : X.mg "list" = none) (hE : EndOk tb X.K te fe) (he : PRg X e te) (na : starEach [e] X.env = (false, eval e X.env) :: starEach [] X.env := by rfl) :
    PE X (.Call (.Name "list" p) [e] [] pos) (nM tb X.K (mLstR fe)) := (pe_listRg hc hg hm he na).weak fun σ H Q h => by
  obtain ⟨ms, ex, r, M, d', M', m, s, e, q⟩ := h
  unfold mLstR at e
  split at e
  · rename_i i j M1 h1
    cases e
    refine hE m s h1 fun H1 x1 m1 s1 ok _ => ⟨ok, fun l hl => ?_⟩
    exact q _ l (x1.trans (Ext.of (same_new hl))) (x1.gone (fresh_ms m1 hl).1 hl) (m1.anew hl (.lst upd_same (rgV_rv i j)))
  · cases e
/-! ### t[::-1] -/
theorem adjust_rev (n : Nat) : Builtin.Slice.sliceAdjust none none (-1) (n : Int) = ((n : Int) - 1, -1) := rfl
theorem places_rev (n : Nat) : Builtin.Slice.slicePlaces ((n : Int) - 1) (-1) (-1) = n := by
  unfold Builtin.Slice.slicePlaces
  rw [if_neg (by decide)]
  by_cases h : n = 0
  · subst h
    rfl
  · rw [if_pos (by omega)]
    have : ((n : Int) - 1 - -1 - 1) / (- -1) + 1 = n := by
      have : (- (-1) : Int) = 1 := rfl
      rw [this, Int.ediv_one]
      omega
    rw [this]
    exact Int.toNat_natCast n
theorem pick_rev (xs : Array Value) : ((List.range xs.size).filterMap fun (k : Nat) => xs[((xs.size : Int) - 1 + (k : Int) * (-1)).toNat]?).toArray = xs.toList.reverse.toArray := by
  congr 1
  refine List.ext_getElem? fun i => ?_
  have hall : ∀ k ∈ List.range xs.size, xs[((xs.size : Int) - 1 + (k : Int) * (-1)).toNat]? = some (xs.toList.reverse.getD k Value.none) := by
    intro k hk
    have hk := List.mem_range.mp hk
    have e : ((xs.size : Int) - 1 + (k : Int) * (-1)).toNat = xs.size - 1 - k := by omega
    rw [e, List.getD_eq_getElem?_getD, List.getElem?_reverse (by simpa using hk), ← Array.getElem?_toList]
    have hl : xs.size - 1 - k < xs.toList.length := by
      rw [Array.length_toList]
      omega
    rw [Array.length_toList, List.getElem?_eq_getElem hl]
    rfl
  have gen : ∀ (l : List Nat) (φ : Nat → Option Value) (ψ : Nat → Value), (∀ k ∈ l, φ k = some (ψ k)) → l.filterMap φ = l.map ψ := by
    intro l φ ψ
    induction l with
    | nil => intro _; rfl
    | cons k l ih =>
      intro h
      rw [List.filterMap_cons, h k List.mem_cons_self, List.map_cons, ih fun j hj => h j (List.mem_cons_of_mem _ hj)]
  rw [gen _ _ _ hall, List.getElem?_map]
  by_cases hi : i < xs.size
  · rw [List.getElem?_range hi]
    have hl : i < xs.toList.reverse.length := by simpa using hi
    show some (xs.toList.reverse.getD i Value.none) = _
    rw [List.getD_eq_getElem?_getD, List.getElem?_eq_getElem hl]
    rfl
  · rw [List.getElem?_eq_none (by simpa using hi), List.getElem?_eq_none (by simpa using hi)]
    rfl
theorem getItem_tupRev {P : Program} {w : World} {A : Around} {E : Value → Shared → Prop} {s : Shared} {t sl : Addr} {its : List Value} {vl vu vs : Value} {Q : Value → Shared → Prop} (ht : IsTup s.heap t its.toArray) (hs : s.heap.IsSliceOf sl vl vu vs)
    (pl : IsPart vl none) (pu : IsPart vu none) (ps : IsPart vs (some (-1))) (hz : its.length ≤ sizeLine) (h : Q (.ref s.heap.objs.size) { s with heap := s.heap.push { cls := .type "tuple", data := .seq its.reverse.toArray } }) : wpAny (model P w) A (getItem (.ref t) (.ref sl)) Q E s := by
  obtain ⟨o, ho, hcls, hdat⟩ := id hs
  have hT : s.TypeIs (.ref sl) "slice" := ⟨o, ho, hcls⟩
  unfold getItem
  try with_reducible refine wpAny_holding ?_
  first | refine wpAny_bind (wpAny_pure ?_) | skip
  refine wpAny_bind (wpAny_sequenceKey ht.typeIs (by decide) ?_)
  refine wpAny_bind (wpAny_callSpecial?_slot (name := Str.ofString "__getitem__") ht.typeIs slot_tuple_getitem (wpAny_call_entry slot_tuple_getitem ht.typeIs entry_tuple_getitem ?_ (args_tuple_getitem _ _)))
  show wpAny _ _ (Builtin.Tuple.tupleItemsOf (.ref t) >>= _) _ _ s
  refine wpAny_bind (tupleItemsOf_ ht (wpAny_bind (wpAny_typeOf hT ?_)))
  rw [if_pos (by decide)]
  refine wpAny_bind ?_
  unfold Builtin.Slice.sliceApplied Builtin.Slice.sliceFields
  refine wpAny_bind (wpAny_bind (wpAny_field ho hdat (x := vl) rfl (wpAny_bind (wpAny_field ho hdat (x := vu) rfl (wpAny_bind (wpAny_field ho hdat (x := vs) rfl (wpAny_pure ?_)))))))
  refine wpAny_bind (HT.slicePart_ ps ?_)
  show wpAny _ _ (if ((-1 : Int) == 0) = true then _ else _) _ _ s
  rw [if_neg (by decide)]
  refine wpAny_bind (HT.slicePart_ pl (wpAny_bind (HT.slicePart_ pu (wpAny_bind (wpAny_pure ?_)))))
  show wpAny _ _ (match Builtin.Slice.sliceAdjust none none (-1) (its.toArray.size : Int) with | (lo, hi) => Pure.pure (lo, (-1 : Int), Builtin.Slice.slicePlaces lo hi (-1))) _ _ s
  rw [adjust_rev]
  show wpAny _ _ (Pure.pure ((its.toArray.size : Int) - 1, (-1 : Int), Builtin.Slice.slicePlaces ((its.toArray.size : Int) - 1) (-1) (-1))) _ _ s
  rw [places_rev]
  refine wpAny_pure ?_
  have no : (((its.toArray.size : Int) - 1 == 0) && ((-1 : Int) == 1) && (its.toArray.size == its.toArray.size)) = false := by
    rw [show ((-1 : Int) == 1) = false from rfl, Bool.and_false, Bool.false_and]
  show wpAny _ _ (if (((its.toArray.size : Int) - 1 == 0) && ((-1 : Int) == 1) && (its.toArray.size == its.toArray.size)) = true then _ else _) _ _ s
  rw [no, if_neg Bool.false_ne_true]
  refine wpAny_bind ?_
  unfold Builtin.Tuple.tupleExact
  refine wpAny_newObj_type ?_ (by rw [pick_rev]; show its.reverse.toArray.size ≤ sizeLine; simpa using hz)
  rw [pick_rev]
  exact wpAny_pure ⟨_, rfl, wpAny_pure h⟩
def mRev (f : FE) : FE := fun r M => match f r M with
  | some (.tup xs, M1) => some (.tup xs.reverse, M1)
  | _ => none
theorem RVs.rev : ∀ {vs : List V} {ds : List D}, RVs K H ms ex vs ds → RVs K H ms ex vs.reverse ds.reverse
  | _, _, .nil => .nil
  | _, _, .cons a b => by
    rw [List.reverse_cons, List.reverse_cons]
    exact b.rev.append (.cons a .nil)
theorem me_rev {k : Nat} (he : PE X a (eM tb X.K f)) : PE X (.Subscript a (.Slice none none (some (.UnaryOp .USub (.Constant (.int 1) k p1) p2)) p3) pos) (eM tb X.K (mRev f)) := by
  refine ⟨fun pins s σ H Q I h => ?_⟩
  obtain ⟨ms, ex, r, M, d', M', m, sl, e, q⟩ := h
  unfold mRev at e
  split at e
  · rename_i xs M1 h1
    cases e
    refine Subscript_ (thn (he.run pins s σ H (fun v H' => Ext ms H H' ∧ RM tb X.K H' ms ex M' ∧ RV X.K H' ms ex v (.tup xs)) I ⟨ms, ex, r, M, _, M', m, sl, h1, fun H' v x m' r' => ⟨x, m', r'⟩⟩) fun v s1 ⟨x, H1, I1, r1, q1⟩ => ?_)
    obtain ⟨x1, m1, rv⟩ := q1
    cases rv with
    | tup sq rr =>
      rename_i ad vs0
      have ev : v = .ref ad := r1
      subst ev
      have hst : PO X (some (.UnaryOp .USub (.Constant (.int 1) k p1) p2)) (tPart (tUn (rU fun i => .int (-i)) (tC (.int 1)))) := po_some (pe_un un_neg pe_int)
      refine wpAny_Slice (thn (po_none.run pins s1 σ H1 (fun o H2 => o = none ∧ H2 = H1) I1 ⟨rfl, rfl⟩) fun vl s2 ⟨l, H2, I2, pl, el, e2⟩ => ?_)
      subst el e2
      refine thn (po_none.run pins s2 σ H2 (fun o H3 => o = none ∧ H3 = H2) I2 ⟨rfl, rfl⟩) fun vu s3 ⟨u, H3, I3, pu, eu, e3⟩ => ?_
      subst eu e3
      refine thn (hst.run pins s3 σ H3 (fun o H4 => o = some (-1) ∧ H4 = H3) I3 ⟨1, rfl, -1, rfl, rfl, rfl⟩) fun vs s4 ⟨o, H4, I4, ps, eo, e4⟩ => ?_
      subst eo e4
      have I5 : Inv X pins σ H4 { s4 with heap := s4.heap.push { cls := .type "slice", data := .fields #[vl, vu, vs] } } := I4.kept (t' := s4.toks) fun b ob q => Heap.get?_push_of_some _ q
      obtain ⟨its, rel, ht, hz⟩ := I5.tuple (SqT.of sq)
      refine tail_any (ops := [.ref ad, .ref s4.heap.objs.size]) ht.typeIs slot_tuple_getitem.lookup ?_ (by with_unfolding_all rfl)
      refine getItem_tupRev ht (Heap.IsSliceOf.new _ vl vu vs) pl pu ps (by rw [← rel.length]; exact hz) ?_
      have hp := I5.hok.fresh (Nat.le_refl _)
      obtain ⟨x6, m6, r6⟩ := new_tup m1 hp rr.rev
      exact ⟨.ref _, _, I5.laid (t' := s4.toks) (o := .tup vs0.reverse) (fun b ob q => Heap.get?_push_of_some _ q) (Nat.le_refl _) ⟨by rw [List.length_reverse]; exact hz, _, rel.reverse, IsTup.new _ _⟩, rfl, q _ _ (x1.trans x6) m6 r6⟩
  · cases e
end NL

/-! N20: a small def called where nothing but the heap is known; tuple(x for x in range(n) if f(y, x) in t). -/
namespace NL
open PySem PySem.Spec PyProof.Rows L2
mutual
theorem reads_but {h h' : Heap} {T : Addr} (hT : ∀ o, h.get? T = some o → o.cls = .none) (k : ∀ b o, b ≠ T → h.get? b = some o → h'.get? b = some o) : ∀ {v : Value} {d : PyData} {as : List Addr}, Reads h v d as → PyData.plain d = true → Reads h' v d as
  | _, _, _, .none, _ => .none
  | _, _, _, .bool b, _ => .bool b
  | _, _, _, .int i t, _ => .int i t
  | _, _, _, .str x t, _ => .str x t
  | _, _, _, .list (a := a) h1 h2 h3 h4, p => .list (k a _ (fun z => by rw [z] at h1; rw [hT _ h1] at h2; cases h2) h1) h2 h3 (readsAll_but hT k h4 p)
  | _, _, _, .tuple (a := a) h1 h2 h3 h4, p => .tuple (k a _ (fun z => by rw [z] at h1; rw [hT _ h1] at h2; cases h2) h1) h2 h3 (readsAll_but hT k h4 p)
  | _, _, _, .dict h1 h2 h3 h4 h5, p => by cases p
theorem readsAll_but {h h' : Heap} {T : Addr} (hT : ∀ o, h.get? T = some o → o.cls = .none) (k : ∀ b o, b ≠ T → h.get? b = some o → h'.get? b = some o) : ∀ {v : List Value} {d : List PyData} {as : List Addr}, ReadsAll h v d as → PyData.plainAll d = true → ReadsAll h' v d as
  | _, _, _, .nil, _ => .nil
  | _, _, _, .cons h1 h2, p => .cons (reads_but hT k h1 (Bool.and_eq_true_iff.mp p).1) (readsAll_but hT k h2 (Bool.and_eq_true_iff.mp p).2)
end
theorem keeps_trans {s s1 s2 : Shared} (a : Keeps s s1) (b : Keeps s1 s2) : Keeps s s2 := by
  obtain ⟨h1, t1, rfl, k1⟩ := a
  obtain ⟨h2, t2, rfl, k2⟩ := b
  exact ⟨h2, t2, rfl, fun c o e => k2 c o (k1 c o e)⟩
theorem keeps_push (s : Shared) (o : Obj) : Keeps s { s with heap := s.heap.push o } := ⟨_, s.toks, rfl, fun _ _ e => Heap.get?_push_of_some _ e⟩
section
variable {P : Program} {w : World} {K : PySem.W.Frag} {A : Around} {E : Value → Shared → Prop} {s : Shared}
/-- the lesser one first -/
def lo2 (i j : Int) : Int := if i < j then i else j
def hi2 (i j : Int) : Int := if i < j then j else i
/-- f(i, j), f's body: return (one, other) if one < other else (other, one) -/
theorem call_pair {x q : Str} {st : Stmt} {f : Addr} {fd : FuncData} {p1 p2 p3 p4 p5 p6 p7 p8 p9 p10 p11 : Pos} {x1 x2} (F : Fun K x q st f fd) (S : FnScope ["one", "other"] ["one", "other"] (defScope st)) (hB : Binds K fd ["one", "other"] [])
    (k1 : (defScope st).names.lookup ("one" : Str) = some .local) (k2 : (defScope st).names.lookup ("other" : Str) = some .local)
    (hbd : defBody st = [.Return (some (.IfExp (.Compare (.Name "one" p1) [.Lt] [.Name "other" p2] p3) (.Tuple [.Name "one" p4, .Name "other" p5] x1 p6) (.Tuple [.Name "other" p7, .Name "one" p8] x2 p9) p10)) p11])
    (KX : K.In s.heap) (lim : s.heap.NoLimit) (hr : A.depth < recursionLimit) {i j : Int} {t u : Tok} {Q : Value → Shared → Prop}
    (h : ∀ s' a t' u', Keeps s s' → IsTup s'.heap a #[.int (lo2 i j) t', .int (hi2 i j) u'] → Q (.ref a) s') : wpAny (model P w) A (call (.ref f) [.int i t, .int j u]) Q E s := by
  have hb := hB s [.int i t, .int j u] KX rfl
  obtain ⟨oc, od, kV, doc, pm, an, cdv, ct, osl, rfl, lk, hcd⟩ := F.ex
  have nd : (["one", "other"] : List Str).Nodup := S.nd
  refine wpAny_call (codeAny_call_function hr (KX _ _ lk) rfl S.co S.gen rfl (PySem.W.codeRec_of KX hcd) (hb _ _ _ _ ?_))
  refine wpAny_newFunctionEnv_cells S.kind (fun y hy => ?_) fun env he s1 z => ?_
  · have := (List.of_mem_zip (show (y.1, y.2) ∈ _ from hy)).1
    rcases S.par y.1 this with g | g
    · exact .inl g
    · exact .inr ⟨g, PySem.W.cellsFrom_some _ _ _ (.inl g)⟩
  obtain ⟨h1, tk, e1, hk⟩ := z.done
  have kp : Keeps s s1 := ⟨h1, tk, e1, hk⟩
  have ns := z.toInCall.ns
  have ek : env.scope.kind = .function := by rw [he]; exact S.kind
  have e1k : env.kindOf "one" = some .local := by rw [he]; exact k1
  have e2k : env.kindOf "other" = some .local := by rw [he]; exact k2
  refine ⟨lim.keeps z.toInCall.keep, codeAny_func ?_⟩
  rw [hbd]
  have g1 : ∀ {pos : Pos} {Q' : Value → Shared → Prop} {A' : Around} {E' : Value → Shared → Prop}, Q' (.int i t) s1 → wpAny (model P w) A' (eval (.Name "one" pos) env) Q' E' s1 := fun hq =>
    wpAny_Name (wpAny_loadName_local ek e1k ns (bindL_get (i := 0) nd rfl rfl e1k) hq) (by decide)
  have g2 : ∀ {pos : Pos} {Q' : Value → Shared → Prop} {A' : Around} {E' : Value → Shared → Prop}, Q' (.int j u) s1 → wpAny (model P w) A' (eval (.Name "other" pos) env) Q' E' s1 := fun hq =>
    wpAny_Name (wpAny_loadName_local ek e2k ns (bindL_get (i := 1) nd rfl rfl e2k) hq) (by decide)
  refine wpAny_execs_cons (wpAny_Return_some (wpAny_IfExp (wpAny_isTrue_Compare1 (g1 (g2 (lt_int (wpAny_truthy_bool ?_)))))))
  by_cases c : i < j
  · rw [decide_eq_true c, if_pos rfl]
    refine wpAny_Tuple_spliced (args_cons (g1 (args_cons (g2 (args_nil ⟨(by show (2 : Nat) ≤ sizeLine; decide), ?_⟩)))))
    refine h _ _ t u (keeps_trans kp (keeps_push _ _)) ?_
    unfold lo2 hi2
    rw [if_pos c, if_pos c]
    exact IsTup.new _ _
  · rw [decide_eq_false c, if_neg Bool.false_ne_true]
    refine wpAny_Tuple_spliced (args_cons (g2 (args_cons (g1 (args_nil ⟨(by show (2 : Nat) ≤ sizeLine; decide), ?_⟩)))))
    refine h _ _ u t (keeps_trans kp (keeps_push _ _)) ?_
    unfold lo2 hi2
    rw [if_neg c, if_neg c]
    exact IsTup.new _ _
end
/-! ### range(n) as a value -/
theorem cr_range1 {X : Cx} : CallR X (.type "range") (fun vs H Q => ∃ j, vs = [V.int j] ∧ ∀ p, H p = none → Q (.ref p) (upd H p (.rng 0 j))) := by
  intro pins s σ H vs us Q I r h
  obtain ⟨j, rfl, q⟩ := h
  cases r with
  | cons r rr =>
    cases rr
    obtain ⟨t, rfl⟩ := r
    refine call_range_1 ⟨.ref s.heap.objs.size, upd H s.heap.objs.size (.rng 0 j), I.laid (t' := s.toks + 1 + 1) (fun b o e => Heap.get?_push_of_some _ e) (Nat.le_refl _) ?_, rfl, q _ (I.hok.fresh (Nat.le_refl _))⟩
    exact ⟨_, t, _, Heap.get?_push_size _ rfl⟩
section
variable {X : Cx}
/-- tuple(x for x in range(company[0]) if f(person, x) in company[1]) -/
def mKnown (i j : Nat) : FE := fun r M => match r[i]?, r[j]? with
  | some (some (.int q)), some (some (.tup [.int n, .tup ts])) =>
    if 0 ≤ n ∧ n ≤ 1000 ∧ okD (.tup ts) = true then some (.tup (((List.range n.toNat).filter fun (k : Nat) => anyEq (.tup [.int (lo2 q k), .int (hi2 q k)]) ts).map fun (k : Nat) => .int (k : Nat)), M) else none
  | _, _ => none
variable {tb : List Addr} {c T f : Addr} {fd : FuncData} {st : Stmt} {x qf qq : Str}
theorem me_known {i j k : Nat} {y z g : Str} {scope : Scope} {p1 p2 p3 p4 p5 p6 p7 p8 p9 p10 p11 : Pos} {x1 x2} {pa pb pc pd pe pf pg ph pi pj pk pl pm pn pq gpos pos p : Pos} {n1 n2}
    (F : Fun X.K qf qq st f fd) (S' : FnScope ["one", "other"] ["one", "other"] (defScope st)) (hB : Binds X.K fd ["one", "other"] [])
    (k1 : (defScope st).names.lookup ("one" : Str) = some .local) (k2 : (defScope st).names.lookup ("other" : Str) = some .local)
    (hbd : defBody st = [.Return (some (.IfExp (.Compare (.Name "one" p1) [.Lt] [.Name "other" p2] p3) (.Tuple [.Name "one" p4, .Name "other" p5] x1 p6) (.Tuple [.Name "other" p7, .Name "one" p8] x2 p9) p10)) p11])
    (hf : X.mg g = some (.ref f)) (hr : Room k X.A) (hg : Gl X "tuple") (hm : X.mg "tuple" = none) (hg2 : Gl X "range") (hm2 : X.mg "range" = none) (TB : GxR.TabB X.base X.mg c T) (hT : T ∈ tb) (hcode : X.env.code = .ref c) (S : GxR.GenS X.env scope x)
    (hi : X.N[i]? = some y) (hj : X.N[j]? = some z) (vi : X.env.scope.names.lookup y = some .cell) (vj : X.env.scope.names.lookup z = some .cell)
    (fy : scope.names.lookup y = some .free) (fz : scope.names.lookup z = some .free) (ng : scope.names.lookup g = some .globalImplicit)
    (dg : (g == ("__debug__" : Str)) = false) (dx : (x == ("__debug__" : Str)) = false) (dy : (y == ("__debug__" : Str)) = false) (dz : (z == ("__debug__" : Str)) = false) (dy2 : (y == ("__classdict__" : Str)) = false) (dz2 : (z == ("__classdict__" : Str)) = false)
    (fold : ∀ v, genFold (.Call (.Name "range" pb) [.Subscript (.Name z pc) (.Constant (.int 0) n1 pd) pe] [] pf) X.env v = Pure.pure v) :
    PE X (.Call (.Name "tuple" p) [.GeneratorExp (.Name x pq) [⟨.Name x pa, .Call (.Name "range" pb) [.Subscript (.Name z pc) (.Constant (.int 0) n1 pd) pe] [] pf,
      [.Compare (.Call (.Name g pg) [.Name y ph, .Name x pi] [] pj) [.In] [.Subscript (.Name z pk) (.Constant (.int 1) n2 pl) pm] pn], 0⟩] scope gpos] [] pos) (eM tb X.K (mKnown i j)) := by
  have hite : PE X (.Call (.Name "range" pb) [.Subscript (.Name z pc) (.Constant (.int 0) n1 pd) pe] [] pf) (tCB (fun vs H Q => ∃ j, vs = [V.int j] ∧ ∀ p, H p = none → Q (.ref p) (upd H p (.rng 0 j))) (tCons (tOp (rIxT X.K) (tVar j) (tC (.int 0))) tNil)) :=
    pe_callTy cr_range1 hg2 hm2 boot_range (pa_cons (pe_ix ix_tup (pe_var hj (.inr (.inl vj)) dz dz2) pe_int (by intro _ _; rfl)) pa_nil)
  refine (HX.pe_tupG hr hg hm TB hcode S hite fold).weak fun σ H Q h => ?_
  obtain ⟨ms, ex, r, M, d', M', m, sl, e, q⟩ := h
  unfold mKnown at e
  split at e
  · rename_i qi n ts er1 er2
    split at e
    · rename_i hc
      cases e
      obtain ⟨hn0, hn1, okt⟩ := hc
      obtain ⟨v1, s1, rv1⟩ := sl.at_ i _ er1
      obtain ⟨v2, s2, rv2⟩ := sl.at_ j _ er2
      cases rv1
      cases rv2 with
      | tup sq rr =>
        rename_i ac vs
        cases rr with
        | cons ra rr =>
          cases rr with
          | cons rb rr =>
            cases rr
            cases ra
            rename_i vb
            refine ⟨_, s2, _, _, 0, _, rfl, rfl, SqT.of sq, rfl, n, rfl, fun pr hpr => ?_⟩
            have smr := same_new (o := HO.rng 0 n) hpr
            have m1 := m.same smr
            obtain ⟨ps, eT, tT⟩ := m.tbs T hT
            have neTr : T ≠ pr := fun z => by rw [z, hpr] at eT; cases eT
            refine ⟨⟨ps, smr _ _ eT, tT⟩, n.toNat, fun (k : Nat) => anyEq (.tup [.int (lo2 qi k), .int (hi2 qi k)]) ts, fun (k : Nat) => .int (k : Nat), ?_, fun pins s u I ru => ?_, fun H2 p t2 hp => ?_⟩
            · have := small1000 (n := n.toNat) (by omega)
              omega
            · have eu : u = .ref pr := ru
              subst eu
              have I0 : (upd H pr (.rng 0 n)) T = some (.tbl ps) := smr _ _ eT
              have atT : s.heap.get? T = some { cls := .none, data := .fields ps } := I.hok T _ I0
              have ltT : T < s.heap.objs.size := Heap.lt_size atT
              obtain ⟨ta, tb', tc, eR⟩ := I.hok pr _ (show (upd H pr (.rng 0 n)) pr = some (.rng 0 n) from upd_same)
              refine ⟨fun i v => ∃ t, v = .int (0 + (i : Nat) * 1) t, ⟨_, [], fun i h => IsRangeIter h s.heap.objs.size (0 + (i : Nat) * 1) ((n.toNat : Int) - (i : Nat)) 1, fun A' E' Q' hA hq => wpAny_pyIter_range eR (small_one (by omega) (by omega) (by omega) (by omega)) hq, fun A' hA => Walks.range hA _ 0 1 n.toNat, ?_, fun b hb => absurd hb (by simp)⟩, ?_⟩
              · show Heap.get? _ _ = _
                rw [rangeSize_nat]
                have e1 : (n - 0).toNat = n.toNat := by rw [Int.sub_zero]
                rw [e1]
                exact Heap.get?_push_size _ rfl
              · intro env A' E' i' yv s₂ m₂ hsc hce hgl hA hd hu hP ns mx keep
                obtain ⟨t', eyv⟩ := hP
                have ei : (0 : Int) + (i' : Nat) * 1 = (i' : Nat) := by omega
                rw [ei] at eyv
                subst eyv
                have hk : env.scope.kind = .function := by rw [hsc]; exact S.kind
                have kof : ∀ a, env.kindOf a = scope.names.lookup a := fun a => by rw [← hsc]; rfl
                have neK : ∀ b o, X.base.get? b = some o → b ≠ T := fun b o eb z => by
                  have := (I.bs b o eb).2
                  rw [z, I0] at this
                  cases this
                have KX : X.K.In s₂.heap := fun b o eb => keep b o (neK b o (I.ok.mod.kin b o eb)) (I.kIn b o eb)
                have neT : cStatics ≠ T := by
                  obtain ⟨_, nss, _⟩ := I.nolimit
                  obtain ⟨o', es, ep, got, hdd, _⟩ := nss
                  intro z
                  rw [z, atT] at got
                  cases got
                  cases hdd
                have lim : s₂.heap.NoLimit := I.nolimit.extBut keep neT
                have gns : s₂.heap.Ns env.globals X.mg := by
                  rw [hgl, I.ok.glob]
                  exact (I.mod.glob.keeps I.bk).extBut keep TB.gP
                obtain ⟨ml, _, look⟩ := I.loc
                have cellOf : ∀ {j : Nat} {a : Str} {v : V}, X.N[j]? = some a → σ[j]? = some (some v) → X.env.scope.names.lookup a = some .cell → scope.names.lookup a = some .free → ∃ cc vv, RelV v vv ∧ env.cells.lookup a = some cc ∧ s₂.heap.IsCell cc (some vv) := by
                  intro j a v e1 e2 e3 e4
                  obtain ⟨vv, r1, l⟩ := look j a v e1 e2 (.inr (.inl e3))
                  rcases l with ⟨l, _⟩ | ⟨_, cc, hc, hcell⟩
                  · have l : X.env.scope.names.lookup a = some .local := l
                    rw [e3] at l
                    cases l
                  · obtain ⟨o, ho, hdo⟩ := hcell
                    refine ⟨cc, vv, r1, ?_, o, keep cc o (fun z => ?_) ho, hdo⟩
                    · rw [hce]
                      exact NdefX.clo_has S.free (PySem.mem_of_lookup e4) hc
                    · rw [z, atT] at ho
                      cases ho
                      cases hdo
                obtain ⟨cy, vy, ry, ly, cely⟩ := cellOf hi s1 vi fy
                obtain ⟨cz, vz, rz, lz, celz⟩ := cellOf hj s2 vj fz
                obtain ⟨ty, rfl⟩ := ry
                have evz : vz = .ref ac := rz
                subst evz
                obtain ⟨its, rits, itup, _⟩ := I.tuple (SqT.of (smr _ _ sq))
                cases rits with
                | cons ri rits =>
                  cases rits with
                  | cons rj rits =>
                    cases rits
                    rename_i u0 u1
                    have neac : ac ≠ T := fun z => by
                      obtain ⟨o, ho, hcl, _⟩ := itup
                      rw [z, atT] at ho
                      cases ho
                      cases hcl
                    obtain ⟨oc, hoc, hcl, nn, hdd⟩ := itup
                    have ht2 : s₂.heap.get? ac = some oc := keep ac oc neac hoc
                    obtain ⟨o1, o2⟩ := Bool.and_eq_true_iff.mp okt
                    obtain ⟨as, rd⟩ := Dp.reads I _ _ _ ((rb.ext m (Ext.of smr)).dp o1) rj
                    have rd2 := reads_but (fun o ho => by rw [atT] at ho; cases ho; rfl) keep rd (plain_sh o2)
                    constructor
                    · rw [List.forIn_cons]
                      refine wpAny_bind ?_
                      rw [if_pos rfl]
                      refine wpAny_bind (wpAny_isTrue_Compare1 (wpAny_Call_Name_kw (Calls.Name_function_global hk ((kof g).trans ng) (Calls.loadGlobal_global gns hf ?_) dg)) rfl)
                      refine PySem.W.callWith_K (h₀ := X.base) I.ok.mod.kin F.kp (args_cons (wpAny_Name (wpAny_loadName_free hk ((kof y).trans fy) ly cely ?_ dy2) dy) rfl) rfl rfl
                      refine args_cons (wpAny_Name (wpAny_loadName_local hk ((kof x).trans S.loc) ns mx ?_) dx) rfl
                      refine args_nil ⟨KX, ?_⟩
                      refine call_pair F S' hB k1 k2 hbd KX lim (by have := hr.dp; omega) fun s3 a ta2 tb2 kp at3 => ?_
                      obtain ⟨h3, tk3, e3, k3⟩ := kp
                      have celz3 : s3.heap.IsCell cz (some (.ref ac)) := by
                        obtain ⟨o, ho, hdo⟩ := celz
                        exact ⟨o, by rw [e3]; exact k3 _ _ ho, hdo⟩
                      refine Subscript_ (wpAny_Name (wpAny_loadName_free hk ((kof z).trans fz) lz celz3 ?_ dz2) dz)
                      refine wpAny_Constant_int ?_
                      have ht3 : s3.heap.get? ac = some oc := by rw [e3]; exact k3 _ _ ht2
                      refine subscriptTail_builtinR (x := u1) ⟨oc, ht3, hcl⟩ slot_tuple_getitem.lookup (getItem_tuple (j := 1) ⟨oc, ht3, hcl, nn, hdd⟩ (by decide) (by decide) rfl rfl ⟨rfl, ?_⟩) rfl
                      have rd3 := Reads.keeps (h' := s3.heap) (fun b o eb => by rw [e3]; exact k3 b o eb) rd2
                      obtain ⟨o4, ho4, hc4, n4, hd4⟩ := at3
                      have rp : Reads s3.heap (.ref a) (.tuple [.int (lo2 qi i'), .int (hi2 qi i')]) _ := .tuple ho4 hc4 hd4 (.cons (.int _ _) (.cons (.int _ _) .nil))
                      have shp : SeqAt.shaped (.tuple [.int (lo2 qi i'), .int (hi2 qi i')]) = true := rfl
                      refine SeqAt.in_tuple_data rd3 rp (PyData.plainAll_of_canLay0 _ (SeqAt.canLay_of_shaped o2)) (plain_sh shp) (room_in_shaped shp (by have := hr.un; omega)) ?_
                      refine wpAny_truthy_bool (wpAny_pure ?_)
                      show wpAny _ _ (forIn [] _ _) _ _ _
                      rw [List.forIn_nil]
                      refine wpAny_pure ⟨?_, h3, _, by rw [e3], k3⟩
                      exact anyEq_eq (.tup [.int (lo2 qi i'), .int (hi2 qi i')]) ts
                    · intro _
                      exact wpAny_Name (wpAny_loadName_local hk ((kof x).trans S.loc) ns mx ⟨⟨t', rfl⟩, GxR.keeps_refl _⟩) dx
            · obtain ⟨x2, m2⟩ := tabbed_ext m1 hT t2
              have ri : RVs X.K H2 ms ex (((List.range n.toNat).filter fun (k : Nat) => anyEq (.tup [.int (lo2 qi k), .int (hi2 qi k)]) ts).map fun (k : Nat) => V.int (k : Nat)) (((List.range n.toNat).filter fun (k : Nat) => anyEq (.tup [.int (lo2 qi k), .int (hi2 qi k)]) ts).map fun (k : Nat) => D.int (k : Nat)) := by
                have := RVs.of_ints (K := X.K) (H := H2) (ms := ms) (ex := ex) (((List.range n.toNat).filter fun (k : Nat) => anyEq (.tup [.int (lo2 qi k), .int (hi2 qi k)]) ts).map fun (k : Nat) => (k : Int))
                rw [List.map_map, List.map_map] at this
                exact this
              obtain ⟨x3, m3, r3⟩ := new_tup m2 hp ri
              exact q _ _ (((Ext.of smr).trans x2).trans x3) m3 r3
    · cases e
  · cases e
end
end NL

/-! N21: len(set(ints)), sorted(set(pairs)), xs.pop(i), x, y = (a list made anew), e. -/
namespace NL
open PySem PySem.Spec PyProof.Rows L2
variable {tb : List Addr} {K : PySem.W.Frag} {H H' H1 : Hp} {ms ms' ex ex' : List Addr} {M M' M1 : MM}
variable {X : Cx} {pos p2 p p1 p3 : Pos} {a b : Expr} {f g : FE} {fa : FA}
/-! ### len(set(t)), t unlike ints -/
def mLenSet (f : FE) : FE := fun r M => match f r M with
  | some (.tup xs, M1) => match intsOf xs with
    | some ns => if ns.Nodup ∧ ns.length ≤ 1000 then some (.int ns.length, M1) else none
    | none => none
  | _ => none
theorem setR_len {w : World} {h : Heap} {a : Addr} {ns : List Int} {c : Nat} (R : SetR w h a (fun j => decide (j ∈ ns)) c) (nd : ns.Nodup) : c = ns.length := by
  obtain ⟨o, es, ep, t, _, _, _, _, hn, hk, _, _, hs, _⟩ := R
  have pm : (es.toList.map keyOf).Perm ns := (List.perm_ext_iff_of_nodup hn nd).mpr fun k => by
    rw [← hk k]
    exact decide_eq_true_iff
  have := pm.length_eq
  rw [List.length_map, Array.length_toList] at this
  omega
theorem me_lenSet (hc : X.calm = true) (hg : Gl X "len") (hm : X.mg "len" = none) (hg2 : Gl X "set") (hm2 : X.mg "set" = none) (ha : PE X a (eM tb X.K f)) (na : starEach [a] X.env = (false, eval a X.env) :: starEach [] X.env := by rfl) :
    PE X (.Call (.Name "len" p) [.Call (.Name "set" p2) [a] [] p3] [] pos) (eM tb X.K (mLenSet f)) := by
  refine ⟨fun pins s σ H Q I h => ?_⟩
  obtain ⟨ms, ex, r, M, d', M', m, sl, e, q⟩ := h
  unfold mLenSet at e
  split at e
  · rename_i xs M1 h1
    split at e
    · rename_i ns hns
      split at e
      · rename_i hcond
        cases e
        refine Call_ (ld_blt I hg hm boot_len (PyProof.Rows.callWith_builtin1 (PyProof.Rows.args_cons (Call_ (ld_blt I hg2 hm2 boot_set ?_)) rfl) rfl rfl))
        refine PyProof.Rows.callWith_type1 (PyProof.Rows.args_cons (thn (ha.run pins s σ H (fun v H' => Ext ms H H' ∧ RM tb X.K H' ms ex M' ∧ RV X.K H' ms ex v (.tup xs)) I ⟨ms, ex, r, M, _, M', m, sl, h1, fun H' v x m' r' => ⟨x, m', r'⟩⟩) fun v s1 ⟨x, H1, I1, r1, q1⟩ => PyProof.Rows.args_nil ?_) na) na rfl
        obtain ⟨x1, m1, rv⟩ := q1
        cases rv with
        | tup sq rr =>
          rename_i ad vs0
          have ev : v = .ref ad := r1
          subst ev
          rw [intsOf_eq hns] at rr
          rw [rr.ints] at sq
          obtain ⟨its, rel, ht, hz⟩ := I1.tuple (SqT.of sq)
          refine call_set_tupI ns (I1.ok.hd hc) ht (by simpa using RZ.intsAre_vals rel) (by unfold scanBound; omega) fun h' tk c hS hle hk => PyProof.Rows.args_nil ?_
          have hlen := setR_len hS hcond.1
          obtain ⟨o, es, ep, t, ho, hex, hd, _, _, _, _, hf, hn, _⟩ := hS
          have I2 : Inv X pins σ H1 { s1 with heap := h', toks := tk } := I1.kept hk
          refine call_len_set ho hex hd hf (by omega) ⟨.int ns.length, H1, I2.tok _, ⟨_, by rw [hn, hlen]⟩, q H1 _ x1 m1 (.int _)⟩
      · cases e
    · cases e
  · cases e
/-! ### xs.pop(i) -/
def mPop (fo fi : FE) : FE := fun r M => match fo r M with
  | some (.mu n, M1) => match M1[n]? with
    | some (.lst _) => match fi r M1 with
      | some (.int i, M2) => match M2[n]? with
        | some (.lst xs) => if 0 ≤ i ∧ i < xs.length ∧ xs.length ≤ 1000 then match xs[i.toNat]? with
            | some d => some (d, M2.set n (.lst (xs.eraseIdx i.toNat)))
            | none => none
          else none
        | _ => none
      | _ => none
    | _ => none
  | _ => none
theorem RVs.erase : ∀ {vs : List V} {ds : List D} (n : Nat), RVs K H ms ex vs ds → RVs K H ms ex (vs.eraseIdx n) (ds.eraseIdx n)
  | _, _, _, .nil => .nil
  | _, _, 0, .cons _ b => b
  | _, _, n + 1, .cons a b => .cons a (RVs.erase n b)
theorem mt_pop {fo fi : FE} {σ : L2.St} {Q : VK} (h : eM tb K (mPop fo fi) σ H Q) : tBM K "list" rPopAt (eM tb K fo) (tCons (eM tb K fi) tNil) σ H Q := by
  obtain ⟨ms, ex, r, M, d', M', m, s, e, q⟩ := h
  unfold mPop at e
  split at e
  · rename_i n M1 h1
    split at e
    · rename_i ys h0
      split at e
      · rename_i i M2 h2
        split at e
        · rename_i xs h3
          split at e
          · rename_i hb
            split at e
            · rename_i d h4
              cases e
              refine eM.use m s h1 fun H1 v1 x1 m1 s1 r1 => ?_
              cases r1 with
              | mu e0 =>
                rename_i ad
                constructor
                · cases m1.at_ _ _ _ e0 h0 with
                  | lst sq _ => exact .inl ⟨rfl, _, SqL.of sq⟩
                refine eM.use m1 s1 h2 fun H2 v2 x2 m2 s2 r2 => ?_
                cases r2
                have raw := m2.at_ _ _ _ e0 h3
                cases raw with
                | lst sq rr =>
                  rename_i vs
                  have hl := rr.length
                  obtain ⟨w, hw, rw'⟩ := rr.get h4
                  have hn : n < M2.length := (List.getElem?_eq_some_iff.mp h3).1
                  obtain ⟨x3, m3⟩ := m2.store (d := .lst (xs.eraseIdx i.toNat)) (o := .lst (vs.eraseIdx i.toNat)) e0 hn (fun _ z => by cases z) (.inl ⟨_, sq⟩) fun x => .lst upd_same ((rr.erase _).ext m2 x)
                  exact ⟨_, vs, i, i.toNat, w, rfl, rfl, sq, by omega, by omega, seqIndex_of hb.1 (by omega), hw, q _ _ ((x1.trans x2).trans x3) m3 (rw'.ext m2 x3)⟩
            · cases e
          · cases e
        · cases e
      · cases e
    · cases e
  · cases e
theorem me_pop {o i : Expr} {pa pc : Pos} {fo fi : FE} (ho : PE X o (eM tb X.K fo)) (hi : PE X i (eM tb X.K fi)) (hbase : attributeBase o "pop" X.env (eval o X.env) = eval o X.env := by rfl)
    (hfew : ((backTo pc (starEach [i] X.env)).all (fun x => !x.1) && (backToKw pc (keywordEach [] X.env)).all (fun x => x.1.isSome) && decide (([i] : List Expr).length + ([] : List Keyword).length + (if ([] : List Keyword).isEmpty then 0 else 1) < 30)) = true := by rfl)
    (hline : (pa.endLine == pc.line) = true := by rfl) (hst : starEach [i] X.env = (false, eval i X.env) :: starEach [] X.env := by rfl) :
    PE X (.Call (.Attribute o "pop" pa) [i] [] pc) (eM tb X.K (mPop fo fi)) :=
  (pe_bm PySem.F.plainAttrs_list PySem.F.slot_list_pop PySem.F.type_list_pop mt_popAt ho (pa_cons hi pa_nil hst) hbase hfew hline hst rfl).weak fun _ _ _ h => mt_pop h
/-! ### x, y = (a list made anew), e -/
def mNewP (i j : Nat) (f g : FE) (k : FS) : FS := fun r M => match f r M with
  | some (d, M1) => match g r (M1 ++ [d]) with
    | some (u, M2) => match k ((r.set i (some (.mu M1.length))).set j (some u)) M2 with
      | some (.rt v, M3) => match M3[M1.length]? with
        | some o => if (NL.clean M1.length o && (M3.take M1.length).all (NL.clean M1.length)) = true then some (.rt (NL.told M1.length o v), M3.take M1.length) else none
        | none => none
      | _ => none
    | none => none
  | none => none
theorem mt_newP {i j : Nat} {k : FS} {D : Ends} {σ : L2.St} (h : sM tb K (mNewP i j f g k) D σ H) : tSeq (tPar i j (tCons (nM tb K f) (tCons (eM tb K g) tNil))) (sM tb K k) D σ H := by
  obtain ⟨ms, ex, r, M, o, M', m, s, e, q⟩ := h
  unfold mNewP at e
  split at e
  · rename_i d M1 h1
    split at e
    · rename_i u M2 h2
      split at e
      · rename_i v M3 h3
        split at e
        · rename_i o h4
          split at e
          · rename_i hc
            cases e
            obtain ⟨c1, c2⟩ := Bool.and_eq_true_iff.mp hc
            refine ⟨ms, ex, r, M, d, M1, m, s, h1, fun H1 p x1 hp m1 => ?_⟩
            have hlen : ms.length = M1.length := by
              have := m1.len
              simp at this
              exact this
            obtain ⟨np0, nx⟩ := fresh_ms m hp
            have s1 : Sl K H1 (ms ++ [p]) ex σ r := ⟨s.len, fun j d' ej => by
              obtain ⟨w, g1, g2⟩ := s.at_ j d' ej
              exact ⟨w, g1, push_rv m hp x1 g2⟩⟩
            refine eM.use m1 s1 h2 fun H2 v2 x2 m2 s2 r2 => ?_
            refine ⟨_, _, rfl, ms ++ [p], ex, (r.set i (some (.mu M1.length))).set j (some u), M2, .rt v, M3, m2, ?_, h3, fun H3 x3 m3 w rw' => ?_⟩
            · exact (s2.set (.mu (by rw [← hlen, List.getElem?_append_right (Nat.le_refl _)]; simp))).set r2
            · rw [← hlen] at c1 c2 h4 q
              have m4 := m3.pop c2
              have raw := m3.at_ ms.length p o (by rw [List.getElem?_append_right (Nat.le_refl _)]; simp) h4
              have ho := raw.still np0 nx c1
              have out : ∀ b u, H b = some u → b ∉ ms → b ∉ ms ++ [p] := fun b u eb nb z => by
                rcases List.mem_append.mp z with z | z
                · exact nb z
                · have : b = p := by simpa using z
                  rw [this, hp] at eb
                  cases eb
              have x : Ext ms H H3 := ⟨fun b u eb nb t => x3 b u (x2 b u (x1 b u eb nb t) (out b u eb nb) t) (out b u eb nb) t, fun b ps eb nb => by
                obtain ⟨ps', y⟩ := x1.tab b ps eb nb
                obtain ⟨ps2, y2⟩ := x2.tab b ps' y (out b _ eb nb)
                exact x3.tab b ps2 y2 (out b _ eb nb)⟩
              exact q H3 x m4 w (RV.told ho rw')
          · cases e
        · cases e
      · cases e
    · cases e
  · cases e
theorem mss_newP {i j : Nat} {x y : Str} {px py pt : Pos} {kt k2 pt2} {sts : List Stmt} {k : FS} (hc : X.calm = true) (hN : X.N.Nodup) (hi : X.N[i]? = some x) (hj : X.N[j]? = some y) (hij : i ≠ j)
    (hx : X.env.scope.names.lookup x = some .local) (hy : X.env.scope.names.lookup y = some .local) (ha : PE X a (nM tb X.K f)) (hb : PE X b (eM tb X.K g)) (hk : PSs X sts (sM tb X.K k))
    (hw : swappedStores [.Tuple [.Name x px, .Name y py] kt pt] (.Tuple [a, b] k2 pt2) X.env = Pure.pure (some [x, y]))
    (hs : swapsWithSole [.Tuple [.Name x px, .Name y py] kt pt] (.Tuple [a, b] k2 pt2) pos.line X.env = Pure.pure false := by rfl)
    (h1 : starEach [a, b] X.env = (false, eval a X.env) :: starEach [b] X.env := by rfl) (h2 : starEach [b] X.env = (false, eval b X.env) :: starEach [] X.env := by rfl) :
    PSs X (.Assign [.Tuple [.Name x px, .Name y py] kt pt] (.Tuple [a, b] k2 pt2) pos :: sts) (sM tb X.K (mNewP i j f g k)) :=
  (pss_cons (ps_par hc hN hi hj hij hx hy (pa_cons ha (pa_cons hb pa_nil h2) h1) hw hs) hk).weak fun _ _ _ h => mt_newP h
end NL

/-! N22: sorted(set(t)), t a tuple of pairs of small ints. -/
namespace NL
open PySem PySem.Spec PyProof.Rows L2
variable {tb : List Addr} {K : PySem.W.Frag} {H H' H1 : Hp} {ms ms' ex ex' : List Addr} {M M' M1 : MM}
/-! ### set(t) -/
/-- a set made anew -/
abbrev set0 (w : World) : Obj := { cls := .type "set", dict := none, data := .set #[] 0 (.fresh 0 0 (!w.params.followText "set-order")) }
section
variable {P : Program} {w : World} {A : Around} {E : Value → Shared → Prop} {s : Shared}
set_option maxHeartbeats 3200000 in
theorem call_setTT {l : Addr} {its : Array Value} (ks : List (Addr × List Int)) {Q : Value → Shared → Prop} (hA : A.handled = none) (ht : s.heap.IsTuple l its) (hit : its.toList = ks.map fun p => Value.ref p.1)
    (hk : ∀ p ∈ ks, IsT P w s.heap p.2 p.1) (few : ks.length < 64) (hu : A.units + 3 < cLine)
    (fin : ∀ (h' : Heap) (tk : Nat) L es ep t, SetTR P w h' s.heap.objs.size L es ep t → Got ks ks.length L → (∀ b o, s.heap.get? b = some o → h'.get? b = some o) → Q (.ref s.heap.objs.size) { s with heap := h', toks := tk }) :
    wpAny (model P w) A (call (.type "set") [.ref l]) Q E s := by
  have size : its.size = ks.length := by
    have := congrArg List.length hit
    simpa using this
  have cs := F.called_set
  obtain ⟨c, tl, hmro⟩ := cs.mro
  have hmade := cs.made
  have hsub := cs.sub
  refine wpAny_call (codeAny_of_tree ?_)
  show wpAny _ _ (callAny (.type "set") _) _ _ _
  refine wpAny_pure ⟨Code.quiet_builtin _ (by decide +kernel), codeAny_builtin F.entry_type_call ?_⟩
  rw [Around.under_plain (weight_type_call_type "set" [.ref l] []) rfl]
  have a1 := cs.notType; have a2 := cs.canCreate; have a3 := F.typeCall_set_1 (.ref l)
  repeat any_goals (first | assumption | wp_step)
  refine codeAny_mono (code_set_led1 (.ref l) (E := E) (Q₁ := fun u s₁ => u = .ref s.heap.objs.size ∧ s₁ = { s with heap := s.heap.push (set0 w) }) ⟨rfl, rfl⟩) fun r s₁ hr => ?_
  cases r with
  | error e => exact hr
  | ok fl =>
    cases fl with
    | ret u =>
      obtain ⟨rfl, rfl⟩ := hr
      have atS : (s.heap.push (set0 w)).get? s.heap.objs.size = some (set0 w) := Heap.get?_push_size _ rfl
      have tyS : Shared.TypeIs { s with heap := s.heap.push (set0 w) } (.ref s.heap.objs.size) "set" := ⟨_, atS, rfl⟩
      have b1 := cs.init.lookup; have b2 := cs.init.bind (.ref s.heap.objs.size)
      repeat any_goals (first | assumption | wp_step)
      refine codeAny_mono (codeAny_call_builtin (R := wants (fun r s₂ => r = .none ∧ ∃ h' tk L es ep t, s₂ = { s with heap := h', toks := tk } ∧ SetTR P w h' s.heap.objs.size L es ep t ∧ Got ks ks.length L ∧ ∀ b o, s.heap.get? b = some o → h'.get? b = some o) E) cs.init.plain F.entry_set_init (check_set_init_1 tyS ?_)) fun r₂ s₂ hr₂ => ?_
      · obtain ⟨⟨ocls, od, odata, osl⟩, hol, hcl, nl, hdl⟩ := ht
        have hcl : ocls = .type "tuple" := hcl
        have hdl : odata = .seq its nl := hdl
        subst hcl hdl
        have atL : (s.heap.push (set0 w)).get? l = some { cls := .type "tuple", dict := od, data := .seq its nl, slots := osl } := Heap.get?_push_of_some _ hol
        have c1 := F.sub_tuple_set; have c2 := F.sub_tuple_frozenset
        have c3 : (Value.type "tuple" == Value.type "dict") = false := by decide
        have tupL : (s.heap.push (set0 w)).IsTuple l its := ⟨_, atL, rfl, nl, rfl⟩
        unfold Builtin.«set.__init__» noKeywords Builtin.Frozenset.updateFrom
        generalize hPI : pyIter = PI
        wp_walk
        subst hPI
        refine wpAny_pyIter_tuple tupL (wpAny_bind (wpAny_runValue ?_))
        have ltL : l < s.heap.objs.size := Heap.lt_size hol
        have hA3 : A.in1.in1.in1.handled = none := by simp [hA]
        have sz1 : (s.heap.push (set0 w)).objs.size = s.heap.objs.size + 1 := Heap.size_push ..
        have nI : l ≠ (s.heap.push (set0 w)).objs.size := by rw [sz1]; exact Nat.ne_of_lt (Nat.lt_succ_of_lt ltL)
        have nS : s.heap.objs.size ∉ [(s.heap.push (set0 w)).objs.size, l] := by
          rw [sz1]
          intro z
          rcases List.mem_cons.mp z with z | z
          · exact Nat.ne_of_lt (Nat.lt_succ_self _) z
          · exact Nat.ne_of_gt ltL (List.mem_singleton.mp z)
        have val : ∀ (i : Nat) (v : Value), its[i]? = some v → ∃ p, ks[i]? = some p ∧ v = .ref p.1 := fun i v hv => by
          have z : its.toList[i]? = some v := by rw [Array.getElem?_toList]; exact hv
          rw [hit, List.getElem?_map, Option.map_eq_some_iff] at z
          obtain ⟨p, z1, z2⟩ := z
          exact ⟨p, z1, z2.symm⟩
        have free : ∀ b, s.heap.objs.size ≤ b → s.heap.get? b = none := fun b hb => by
          cases z : s.heap.get? b with
          | none => rfl
          | some o => exact absurd (Nat.lt_of_lt_of_le (Heap.lt_size z) hb) (Nat.lt_irrefl _)
        refine set_update_tups ((Walks.tuple hA3 _ l nI its).toS) s.heap.objs.size nS ks size few val s.heap hk (free _ (Nat.le_refl _)) (fun b hb => free b (by rw [List.mem_singleton.mp hb, sz1]; exact Nat.le_succ _)) hu (its.size - 0) 0 _ (by omega) (Nat.zero_le _)
          ⟨⟨_, Heap.get?_push_size _ rfl, rfl, rfl⟩, (tupL.push _)⟩ (fun b o e => Heap.get?_push_of_some _ (Heap.get?_push_of_some _ e)) ?start ?stop
        case start =>
          have z : ((s.heap.push (set0 w)).push { cls := .type "tuple_iterator", data := .fields #[.ref l, .int 0 0] }).get? s.heap.objs.size = some (set0 w) := Heap.get?_push_of_some _ atS
          exact ⟨[], #[], 0, _, setTR_fresh z, Got.zero ks⟩
        case stop =>
          intro s' L es ep t hm R g keep
          obtain ⟨h', g2, d', tk', os'⟩ := s'
          obtain rfl : g2 = s.gens := hm.gens
          obtain rfl : d' = s.drawn := hm.drawn
          obtain rfl : os' = s.os := hm.os
          show wpAny _ _ _ _ _ _
          refine wpAny_pure ?_
          show wpAny _ _ (ret Value.none) _ _ _
          rw [size] at g
          exact wpAny_pure ⟨rfl, h', tk', L, es, ep, t, rfl, R, g, keep⟩
      · cases r₂ with
        | error e => exact hr₂
        | ok fl₂ =>
          cases fl₂ with
          | ret r =>
            obtain ⟨rfl, h', tk, L, es, ep, t, rfl, R, g, keep⟩ := hr₂
            repeat any_goals (first | assumption | wp_step)
            exact fin _ _ _ _ _ _ R g keep
          | _ => exact hr₂.elim
    | _ => exact hr.elim
end
section
variable {X : Cx} {pos p2 p p1 p3 : Pos} {a b : Expr} {f g : FE} {fa : FA}
def rSetTT (K : PySem.W.Frag) (P : Program) (w : World) : List V → Hp → VK → Prop := fun xs H Q => ∃ (l : Addr) (ks : List (Addr × List Int)), xs = [V.ref l] ∧ SqT K H l (ks.map fun p => V.ref p.1) ∧ (∀ p ∈ ks, SqT K H p.1 (p.2.map V.int)) ∧ ks.length < 64 ∧
  ∀ a L, H a = none → (∀ p ∈ L, p ∈ ks) → (∀ p ∈ ks, p.2 ∈ L.map (·.2)) → Q (.ref a) (upd H a (SetTO P w a L))
theorem cr_setTT (hc : X.calm = true) (hu : X.A.units + 64 < cLine) : CallR X (.type "set") (rSetTT X.K X.prog X.w) := by
  rintro pins s σ H xs us Q I r ⟨l, ks, rfl, hl, hk, hf, q⟩
  rw [Vals.ref1 r]
  obtain ⟨its, rv, pl, hz⟩ := I.tuple hl
  have hn : H s.heap.objs.size = none := I.hok.fresh (Nat.le_refl _)
  refine call_setTT (P := X.prog) (w := X.w) ks (I.ok.hd hc) pl (by simpa using refs_of_vals rv) (fun p hp => I.isT (hk p hp)) hf (by omega) fun h' tk L es ep t R g k => ?_
  exact ⟨.ref s.heap.objs.size, upd H s.heap.objs.size (SetTO X.prog X.w s.heap.objs.size L), I.laid (t' := tk) k (Nat.le_refl _) (setTO_new R.t0), rfl, q _ L hn (fun p hp => List.mem_of_mem_take (g.sub p hp)) fun p hp => g.all p (by rw [List.take_length]; exact hp)⟩
/-! ### pairs in order, each once -/
def ltP (p q : Int × Int) : Prop := p.1 < q.1 ∨ p.1 = q.1 ∧ p.2 < q.2
instance (p q : Int × Int) : Decidable (ltP p q) := by unfold ltP; infer_instance
def insP (p : Int × Int) : List (Int × Int) → List (Int × Int)
  | [] => [p]
  | q :: qs => if p = q then q :: qs else if ltP p q then p :: q :: qs else q :: insP p qs
def sortP : List (Int × Int) → List (Int × Int)
  | [] => []
  | p :: ps => insP p (sortP ps)
theorem mem_insP {p x : Int × Int} : ∀ {qs : List (Int × Int)}, x ∈ insP p qs ↔ x = p ∨ x ∈ qs
  | [] => by simp [insP]
  | q :: qs => by
    unfold insP
    by_cases h : p = q
    · rw [if_pos h]
      subst h
      simp
    · rw [if_neg h]
      by_cases h2 : ltP p q
      · rw [if_pos h2]
        simp
      · rw [if_neg h2, List.mem_cons, mem_insP, List.mem_cons]
        constructor
        · rintro (z | z | z)
          · exact .inr (.inl z)
          · exact .inl z
          · exact .inr (.inr z)
        · rintro (z | z | z)
          · exact .inr (.inl z)
          · exact .inl z
          · exact .inr (.inr z)
theorem mem_sortP {x : Int × Int} : ∀ {ps : List (Int × Int)}, x ∈ sortP ps ↔ x ∈ ps
  | [] => Iff.rfl
  | p :: ps => by
    show x ∈ insP p (sortP ps) ↔ _
    rw [mem_insP, mem_sortP, List.mem_cons]
theorem ltP_tri {p q : Int × Int} (h : p ≠ q) (h2 : ¬ ltP p q) : ltP q p := by
  obtain ⟨a, b⟩ := p
  obtain ⟨c, d⟩ := q
  unfold ltP at *
  simp only [ne_eq, Prod.mk.injEq] at h
  simp only at h2 ⊢
  omega
theorem ltP_trans {p q r : Int × Int} (h : ltP p q) (h2 : ltP q r) : ltP p r := by
  unfold ltP at *
  omega
theorem sorted_insP {p : Int × Int} : ∀ {qs : List (Int × Int)}, qs.Pairwise ltP → (insP p qs).Pairwise ltP
  | [], _ => List.pairwise_singleton _ _
  | q :: qs, h => by
    unfold insP
    obtain ⟨h1, h2⟩ := List.pairwise_cons.mp h
    by_cases e : p = q
    · rw [if_pos e]
      exact h
    · rw [if_neg e]
      by_cases e2 : ltP p q
      · rw [if_pos e2]
        refine List.pairwise_cons.mpr ⟨fun x hx => ?_, h⟩
        rcases List.mem_cons.mp hx with z | z
        · rw [z]; exact e2
        · exact ltP_trans e2 (h1 x z)
      · rw [if_neg e2]
        refine List.pairwise_cons.mpr ⟨fun x hx => ?_, sorted_insP h2⟩
        rcases mem_insP.mp hx with z | z
        · rw [z]; exact ltP_tri e e2
        · exact h1 x z
theorem sorted_sortP : ∀ (ps : List (Int × Int)), (sortP ps).Pairwise ltP
  | [] => .nil
  | p :: ps => sorted_insP (sorted_sortP ps)
theorem ltP_irr {p : Int × Int} (h : ltP p p) : False := by
  unfold ltP at h
  omega
/-- one order, one list -/
theorem sorted_one : ∀ {xs ys : List (Int × Int)}, xs.Pairwise ltP → ys.Pairwise ltP → (∀ x, x ∈ xs ↔ x ∈ ys) → xs = ys
  | [], [], _, _, _ => rfl
  | [], y :: ys, _, _, h => absurd ((h y).mpr List.mem_cons_self) (by simp)
  | x :: xs, [], _, _, h => absurd ((h x).mp List.mem_cons_self) (by simp)
  | x :: xs, y :: ys, hx, hy, h => by
    obtain ⟨x1, x2⟩ := List.pairwise_cons.mp hx
    obtain ⟨y1, y2⟩ := List.pairwise_cons.mp hy
    have e : x = y := by
      rcases List.mem_cons.mp ((h x).mp List.mem_cons_self) with z | z
      · exact z
      · rcases List.mem_cons.mp ((h y).mpr List.mem_cons_self) with z2 | z2
        · exact z2.symm
        · exact (ltP_irr (ltP_trans (x1 y z2) (y1 x z))).elim
    subst e
    rw [sorted_one x2 y2 fun z => ?_]
    constructor
    · intro hz
      rcases List.mem_cons.mp ((h z).mp (List.mem_cons_of_mem _ hz)) with w | w
      · rw [w] at hz
        exact (ltP_irr (x1 x hz)).elim
      · exact w
    · intro hz
      rcases List.mem_cons.mp ((h z).mpr (List.mem_cons_of_mem _ hz)) with w | w
      · rw [w] at hz
        exact (ltP_irr (y1 x hz)).elim
      · exact w
/-! ### sorted(set(t)) -/
def pairsOf : List D → Option (List (Int × Int))
  | [] => some []
  | .tup [.int i, .int j] :: ds => match pairsOf ds with
    | some ps => some ((i, j) :: ps)
    | none => none
  | _ => none
def pD (p : Int × Int) : D := .tup [.int p.1, .int p.2]
def mSortSet (f : FE) : FE := fun r M => match f r M with
  | some (.tup xs, M1) => match pairsOf xs with
    | some ps => if ps.length < 64 ∧ ∀ p ∈ ps, (0 ≤ p.1 ∧ p.1 < 64) ∧ 0 ≤ p.2 ∧ p.2 < 64 then some (.lst ((sortP ps).map pD), M1) else none
    | none => none
  | _ => none
theorem pairs_ks : ∀ {ds : List D} {vs : List V} {ps : List (Int × Int)}, RVs K H ms ex vs ds → pairsOf ds = some ps →
    ∃ ks : List (Addr × List Int), vs = ks.map (fun p => V.ref p.1) ∧ ks.map (·.2) = ps.map (fun p => [p.1, p.2]) ∧ ∀ p ∈ ks, H p.1 = some (.tup (p.2.map V.int))
  | [], _, _, h, e => by
    cases h
    cases e
    exact ⟨[], rfl, rfl, fun _ z => absurd z (by simp)⟩
  | d :: ds, _, ps, h, e => by
    unfold pairsOf at e
    split at e
    · rename_i e1
      cases e1
    · rename_i i j ds' e1
      obtain ⟨rfl, rfl⟩ := List.cons.inj e1
      split at e
      · rename_i ps' e2
        cases e
        cases h with
        | cons a b =>
          obtain ⟨ks, h1, h2, h3⟩ := pairs_ks b e2
          cases a with
          | tup sq rr =>
            rename_i ad xs
            have := RVs.ints (ns := [i, j]) rr
            subst this
            refine ⟨(ad, [i, j]) :: ks, by rw [h1]; rfl, by rw [List.map_cons, List.map_cons, h2], fun p hp => ?_⟩
            rcases List.mem_cons.mp hp with z | z
            · rw [z]; exact sq
            · exact h3 p z
      · cases e
    · cases e
theorem ks_rvs : ∀ {ks : List (Addr × List Int)} {ps : List (Int × Int)}, ks.map (·.2) = ps.map (fun p => [p.1, p.2]) → (∀ p ∈ ks, H p.1 = some (.tup (p.2.map V.int))) → RVs K H ms ex (ks.map fun p => V.ref p.1) (ps.map pD)
  | [], [], _, _ => .nil
  | [], _ :: _, h, _ => by simp at h
  | _ :: _, [], h, _ => by simp at h
  | k :: ks, p :: ps, h, h2 => by
    obtain ⟨e1, e2⟩ := List.cons.inj (show k.2 :: ks.map (·.2) = [p.1, p.2] :: ps.map _ from h)
    refine .cons ?_ (ks_rvs e2 fun q hq => h2 q (List.mem_cons_of_mem _ hq))
    have := h2 k List.mem_cons_self
    rw [e1] at this
    exact .tup this (.cons (.int _) (.cons (.int _) .nil))
theorem me_sortSet (hc : X.calm = true) (hu : X.A.units + 64 < cLine) (hg : Gl X "sorted") (hm : X.mg "sorted" = none) (hg2 : Gl X "set") (hm2 : X.mg "set" = none) (ha : PE X a (eM tb X.K f)) (na : starEach [a] X.env = (false, eval a X.env) :: starEach [] X.env := by rfl) :
    PE X (.Call (.Name "sorted" p) [.Call (.Name "set" p2) [a] [] p3] [] pos) (eM tb X.K (mSortSet f)) :=
  (pe_callB (cr_sortedT hc) hg hm boot_sorted (pa_cons (pe_callTy (cr_setTT hc hu) hg2 hm2 boot_set (pa_cons ha pa_nil na) (by decide) (by decide) na rfl) pa_nil rfl) (by decide) (by decide) rfl rfl).weak fun σ H Q h => by
    obtain ⟨ms, ex, r, M, d', M', m, s, e, q⟩ := h
    unfold mSortSet at e
    split at e
    · rename_i xs M1 h1
      split at e
      · rename_i ps hps
        split at e
        · rename_i hb
          cases e
          obtain ⟨few, bd⟩ := hb
          refine eM.use m s h1 fun H1 v1 x1 m1 s1 r1 => ?_
          cases r1 with
          | tup sq rr =>
            obtain ⟨ks, e1, e2, e3⟩ := pairs_ks rr hps
            subst e1
            have hlen : ks.length = ps.length := by
              have := congrArg List.length e2
              simpa using this
            refine ⟨_, ks, rfl, SqT.of sq, fun p hp => SqT.of (e3 p hp), by omega, fun a L ha sub all => ?_⟩
            have sm := same_new (o := SetTO X.prog X.w a L) ha
            have m2 := m1.same sm
            have inP : ∀ p ∈ L, ∃ c ∈ ps, p.2 = [c.1, c.2] := fun p hp => by
              have : p.2 ∈ ks.map (·.2) := List.mem_map.mpr ⟨p, sub p hp, rfl⟩
              rw [e2] at this
              obtain ⟨c, hc1, hc2⟩ := List.mem_map.mp this
              exact ⟨c, hc1, hc2.symm⟩
            refine ⟨a, L, 2, 64, rfl, upd_same, fun p hp => SqT.of (sm _ _ (e3 p (sub p hp))), by decide, fun p hp => ?_, fun L' p' pm nd few' pw hp' => ?_⟩
            · obtain ⟨c, hc1, hc2⟩ := inP p hp
              rw [hc2]
              refine ⟨rfl, fun z hz => ?_⟩
              rcases List.mem_cons.mp hz with z1 | z1
              · rw [z1]; exact (bd c hc1).1
              · rw [List.mem_singleton.mp z1]; exact (bd c hc1).2
            · have e4 : L'.map (·.2) = (sortP ps).map fun p => [p.1, p.2] := by
                have mem' : ∀ p ∈ L', ∃ c ∈ ps, p.2 = [c.1, c.2] := fun p hp => inP p (pm.mem_iff.mp hp)
                let toP : List Int → Int × Int := fun l => (l.getD 0 0, l.getD 1 0)
                have back : L'.map (·.2) = ((L'.map (·.2)).map toP).map fun p => [p.1, p.2] := by
                  rw [List.map_map, List.map_map]
                  refine List.map_congr_left fun p hp => ?_
                  obtain ⟨c, _, hc2⟩ := mem' p hp
                  show p.2 = [(p.2).getD 0 0, (p.2).getD 1 0]
                  rw [hc2]
                  rfl
                have so : ((L'.map (·.2)).map toP).Pairwise ltP := by
                  rw [List.map_map]
                  refine List.pairwise_map.mpr ?_
                  have both := pw.and (List.pairwise_map.mp nd)
                  refine both.imp_of_mem fun {x y} hx hy hxy => ?_
                  obtain ⟨c, hc1, hc2⟩ := mem' x hx
                  obtain ⟨d, hd1, hd2⟩ := mem' y hy
                  obtain ⟨g1, g2⟩ := hxy
                  show ltP ((x.2).getD 0 0, (x.2).getD 1 0) ((y.2).getD 0 0, (y.2).getD 1 0)
                  rw [hc2, hd2] at g1 g2 ⊢
                  exact pair_lt g1 g2 (bd c hc1).1 (bd c hc1).2 (bd d hd1).1 (bd d hd1).2
                rw [back]
                congr 1
                refine sorted_one so (sorted_sortP ps) fun z => ?_
                rw [mem_sortP]
                constructor
                · intro hz
                  obtain ⟨l, hl, rfl⟩ := List.mem_map.mp hz
                  obtain ⟨p, hp, rfl⟩ := List.mem_map.mp hl
                  obtain ⟨c, hc1, hc2⟩ := mem' p hp
                  show ((p.2).getD 0 0, (p.2).getD 1 0) ∈ ps
                  rw [hc2]
                  exact hc1
                · intro hz
                  have : [z.1, z.2] ∈ ks.map (·.2) := by
                    rw [e2]
                    exact List.mem_map.mpr ⟨z, hz, rfl⟩
                  obtain ⟨p, hp, hp2⟩ := List.mem_map.mp this
                  have := all p hp
                  obtain ⟨p3, hp3, hp4⟩ := List.mem_map.mp this
                  refine List.mem_map.mpr ⟨p3.2, List.mem_map.mpr ⟨p3, pm.mem_iff.mpr hp3, rfl⟩, ?_⟩
                  show ((p3.2).getD 0 0, (p3.2).getD 1 0) = z
                  rw [hp4, hp2]
                  rfl
              have r3 : RVs X.K (upd H1 a (SetTO X.prog X.w a L)) ms ex (L'.map fun q => V.ref q.1) ((sortP ps).map pD) := ks_rvs e4 fun p hp => sm _ _ (e3 p (sub p (pm.mem_iff.mp hp)))
              obtain ⟨x4, m4, r4⟩ := new_lst m2 hp' r3
              exact q _ _ ((x1.trans (Ext.of sm)).trans x4) m4 r4
        · cases e
      · cases e
    · cases e
end
end NL

/-! N23: a def whose code object is known. -/
namespace NL
open PySem PySem.Spec PyProof.Rows L2
variable {tb : List Addr} {K : PySem.W.Frag} {P : Program} {w : World} {mg : Str → Option Value} {base : Heap} {fs : FS}
theorem units0 {k : Nat} {A : Around} (r : Room k A) : A.units < cLine := by
  have := r.un
  omega
theorem units64 {k : Nat} {A : Around} (r : Room k A) : A.units + 64 < cLine := by
  have := r.un
  omega
theorem m_fnC {x qual : Str} {st : Stmt} {q c : Addr} {fd : FuncData} {N ps : List Str} {k : Nat}
    (F : ∃ (oc : Value) (od : Option Addr) (kV doc pm : Value) (an : Option Addr) (ct : Value) (osl : Array (Option Value)), fd = PySem.W.fnOf x qual (defArgs st) (defBody st) (defScope st) .none kV doc pm an (.ref c) ct ∧ K.lookup q = some ⟨oc, od, .func fd, osl⟩ ∧ PySem.W.codeIn K (.ref c) qual = true)
    (S : FnScope N ps (defScope st)) (hb : ∀ (A : Around) (outer : List Env) (s : Shared) (H : Hp) (E : XK), Room k (A.deeper (envOfC qual (defScope st) s.heap.objs.size q (.ref c))) →
      PSs (cxOf CX0 P w K mg base N qual (defScope st) q (.ref c) A outer s H E).nox (defBody st) (sM tb K fs)) : FnOk P w K mg base CX0 (k + 1) q fd ps (spM tb K ps.length (mFun N.length fs)) := by
  obtain ⟨oc, od, kV, doc, pm, an, ct, osl, rfl, lk, hcd⟩ := F
  refine fn_of lk hcd S (fun vs H Q E h => ?_) fun A outer s H vs Q E hr h => ⟨sM tb K fs, (hb A outer s H E hr).nox, ?_⟩
  · obtain ⟨ms, ex, M, ds, d, M', m, r, hl, _⟩ := h
    rw [r.length, hl]
  · obtain ⟨ms, ex, M, ds, d, M', m, r, hl, e, hq⟩ := h
    unfold mFun at e
    split at e
    · rename_i d1 M1 h1
      cases e
      exact sM.use m (start_sl r) h1 fun H1 x1 m1 v rv => hq H1 v x1 m1 rv
    · rename_i r1 M1 h1
      cases e
      exact sM.use m (start_sl r) h1 fun H1 x1 m1 σ' _ => hq H1 .non x1 m1 .non
    · cases e
theorem genS_mk {qual : Str} {sc scope : Scope} {n : Nat} {f : Addr} {cd : Value} {x : Str} (h1 : scope.kind = .function) (h2 : scope.isCoroutine = false) (h3 : ∀ y ∈ scope.names, y.2 ≠ .cell) (h4 : scope.names.lookup (".0" : Str) = some NameKind.local)
    (h5 : scope.names.lookup x = some .local) (h6 : ∀ y ∈ scope.names, y.2 = .free → sc.names.lookup y.1 = some .cell) : GxR.GenS (envOfC qual sc n f cd) scope x :=
  ⟨h1, h2, h3, h4, h5, fun y hy e => cell_has (h6 y hy e)⟩
end NL

/-! the text of twobesides_k06_whole_companies by places, the mirror of each def -/
namespace MT
open PySem PySem.Spec PyProof.Rows L2 NL
def topS (i : Nat) : Stmt := PySem.Challenge.pw_twobesides_k06_whole_companies.main.body.getD i (.Pass ⟨0, 0, 0, 0⟩)
abbrev s_p_is_integer : Stmt := topS 3
abbrev n_p_is_integer : List Str := ["value"]
theorem sc_p_is_integer : FnScope ["value"] ["value"] (defScope s_p_is_integer) := ⟨rfl, rfl, rfl, by decide +kernel, rfl, by decide +kernel, by decide +kernel⟩
abbrev s_p_is_between : Stmt := topS 4
abbrev n_p_is_between : List Str := ["value", "least", "most"]
theorem sc_p_is_between : FnScope ["value", "least", "most"] ["value", "least", "most"] (defScope s_p_is_between) := ⟨rfl, rfl, rfl, by decide +kernel, rfl, by decide +kernel, by decide +kernel⟩
abbrev s_p_is_tuple_of : Stmt := topS 5
abbrev n_p_is_tuple_of : List Str := ["value", "many"]
theorem sc_p_is_tuple_of : FnScope ["value", "many"] ["value", "many"] (defScope s_p_is_tuple_of) := ⟨rfl, rfl, rfl, by decide +kernel, rfl, by decide +kernel, by decide +kernel⟩
abbrev s_p_is_ascending : Stmt := topS 6
abbrev n_p_is_ascending : List Str := ["values", "index"]
theorem sc_p_is_ascending : FnScope ["values", "index"] ["values"] (defScope s_p_is_ascending) := ⟨rfl, rfl, rfl, by decide +kernel, rfl, by decide +kernel, by decide +kernel⟩
abbrev s_p_are_unlike_between : Stmt := topS 7
abbrev n_p_are_unlike_between : List Str := ["value", "least", "most", "part"]
theorem sc_p_are_unlike_between : FnScope ["value", "least", "most", "part"] ["value", "least", "most"] (defScope s_p_are_unlike_between) := ⟨rfl, rfl, rfl, by decide +kernel, rfl, by decide +kernel, by decide +kernel⟩
abbrev s_p_is_pair_of : Stmt := topS 8
abbrev n_p_is_pair_of : List Str := ["people", "value", "one", "other"]
theorem sc_p_is_pair_of : FnScope ["people", "value", "one", "other"] ["people", "value"] (defScope s_p_is_pair_of) := ⟨rfl, rfl, rfl, by decide +kernel, rfl, by decide +kernel, by decide +kernel⟩
abbrev s_p_are_ties_of : Stmt := topS 9
abbrev n_p_are_ties_of : List Str := ["people", "value", "tie"]
theorem sc_p_are_ties_of : FnScope ["people", "value", "tie"] ["people", "value"] (defScope s_p_are_ties_of) := ⟨rfl, rfl, rfl, by decide +kernel, rfl, by decide +kernel, by decide +kernel⟩
abbrev s_p_is_company_of : Stmt := topS 10
abbrev n_p_is_company_of : List Str := ["named", "value", "people", "ties"]
theorem sc_p_is_company_of : FnScope ["named", "value", "people", "ties"] ["named", "value"] (defScope s_p_is_company_of) := ⟨rfl, rfl, rfl, by decide +kernel, rfl, by decide +kernel, by decide +kernel⟩
abbrev s_p_check_named : Stmt := topS 18
abbrev n_p_check_named : List Str := ["named"]
theorem sc_p_check_named : FnScope ["named"] ["named"] (defScope s_p_check_named) := ⟨rfl, rfl, rfl, by decide +kernel, rfl, by decide +kernel, by decide +kernel⟩
abbrev s_p_check_company : Stmt := topS 19
abbrev n_p_check_company : List Str := ["named", "company"]
theorem sc_p_check_company : FnScope ["named", "company"] ["named", "company"] (defScope s_p_check_company) := ⟨rfl, rfl, rfl, by decide +kernel, rfl, by decide +kernel, by decide +kernel⟩
abbrev s_p_check_person : Stmt := topS 20
abbrev n_p_check_person : List Str := ["company", "person"]
theorem sc_p_check_person : FnScope ["company", "person"] ["company", "person"] (defScope s_p_check_person) := ⟨rfl, rfl, rfl, by decide +kernel, rfl, by decide +kernel, by decide +kernel⟩
abbrev s_p_check_other : Stmt := topS 21
abbrev n_p_check_other : List Str := ["company", "person", "other"]
theorem sc_p_check_other : FnScope ["company", "person", "other"] ["company", "person", "other"] (defScope s_p_check_other) := ⟨rfl, rfl, rfl, by decide +kernel, rfl, by decide +kernel, by decide +kernel⟩
abbrev s_p_check_besides : Stmt := topS 22
abbrev n_p_check_besides : List Str := ["named", "company", "besides"]
theorem sc_p_check_besides : FnScope ["named", "company", "besides"] ["named", "company", "besides"] (defScope s_p_check_besides) := ⟨rfl, rfl, rfl, by decide +kernel, rfl, by decide +kernel, by decide +kernel⟩
abbrev s_p_pairs_of : Stmt := topS 24
abbrev n_p_pairs_of : List Str := ["people", "one", "other"]
theorem sc_p_pairs_of : FnScope ["people", "one", "other"] ["people"] (defScope s_p_pairs_of) := ⟨rfl, rfl, rfl, by decide +kernel, rfl, by decide +kernel, by decide +kernel⟩
abbrev s_p_pair_of : Stmt := topS 25
abbrev n_p_pair_of : List Str := ["one", "other"]
theorem sc_p_pair_of : FnScope ["one", "other"] ["one", "other"] (defScope s_p_pair_of) := ⟨rfl, rfl, rfl, by decide +kernel, rfl, by decide +kernel, by decide +kernel⟩
abbrev s_p_part_for : Stmt := topS 26
abbrev n_p_part_for : List Str := ["named", "company", "besides", "people", "known", "ties", "tie", "one", "other"]
theorem sc_p_part_for : FnScope ["named", "company", "besides", "people", "known", "ties", "tie", "one", "other"] ["named", "company", "besides"] (defScope s_p_part_for) := ⟨rfl, rfl, rfl, by decide +kernel, rfl, by decide +kernel, by decide +kernel⟩
abbrev s_p_is_company : Stmt := topS 28
abbrev n_p_is_company : List Str := ["named", "value"]
theorem sc_p_is_company : FnScope ["named", "value"] ["named", "value"] (defScope s_p_is_company) := ⟨rfl, rfl, rfl, by decide +kernel, rfl, by decide +kernel, by decide +kernel⟩
abbrev s_p_do_know : Stmt := topS 29
abbrev n_p_do_know : List Str := ["named", "company", "person", "other"]
theorem sc_p_do_know : FnScope ["named", "company", "person", "other"] ["named", "company", "person", "other"] (defScope s_p_do_know) := ⟨rfl, rfl, rfl, by decide +kernel, rfl, by decide +kernel, by decide +kernel⟩
abbrev s_p_known_to : Stmt := topS 30
abbrev n_p_known_to : List Str := ["named", "company", "person"]
theorem sc_p_known_to : FnScope ["named", "company", "person"] ["named", "company", "person"] (defScope s_p_known_to) := ⟨rfl, rfl, rfl, by decide +kernel, rfl, by decide +kernel, by decide +kernel⟩
abbrev s_p_part_of : Stmt := topS 31
abbrev n_p_part_of : List Str := ["named", "company", "besides"]
theorem sc_p_part_of : FnScope ["named", "company", "besides"] ["named", "company", "besides"] (defScope s_p_part_of) := ⟨rfl, rfl, rfl, by decide +kernel, rfl, by decide +kernel, by decide +kernel⟩
abbrev s_Lcup : Stmt := topS 33
abbrev n_Lcup : List Str := ["_law_script", "_law_cell"]
theorem sc_Lcup : FnScope ["_law_script", "_law_cell"] ["_law_script"] (defScope s_Lcup) := ⟨rfl, rfl, rfl, by decide +kernel, rfl, by decide +kernel, by decide +kernel⟩
abbrev s_Lroll : Stmt := topS 34
abbrev n_Lroll : List Str := ["_law_cup_here", "_law_many", "_law_found", "_law_deep"]
theorem sc_Lroll : FnScope ["_law_cup_here", "_law_many", "_law_found", "_law_deep"] ["_law_cup_here", "_law_many"] (defScope s_Lroll) := ⟨rfl, rfl, rfl, by decide +kernel, rfl, by decide +kernel, by decide +kernel⟩
abbrev s_Lsome : Stmt := topS 35
abbrev n_Lsome : List Str := ["_law_cup_here", "_law_things"]
theorem sc_Lsome : FnScope ["_law_cup_here", "_law_things"] ["_law_cup_here", "_law_things"] (defScope s_Lsome) := ⟨rfl, rfl, rfl, by decide +kernel, rfl, by decide +kernel, by decide +kernel⟩
abbrev s_Lare_whole : Stmt := topS 36
abbrev n_Lare_whole : List Str := ["_law_value", "_law_low", "_law_high", "_law_one"]
theorem sc_Lare_whole : FnScope ["_law_value", "_law_low", "_law_high", "_law_one"] ["_law_value", "_law_low", "_law_high"] (defScope s_Lare_whole) := ⟨rfl, rfl, rfl, by decide +kernel, rfl, by decide +kernel, by decide +kernel⟩
abbrev s_Ltwo : Stmt := topS 37
abbrev n_Ltwo : List Str := ["_law_one", "_law_other"]
theorem sc_Ltwo : FnScope ["_law_one", "_law_other"] ["_law_one", "_law_other"] (defScope s_Ltwo) := ⟨rfl, rfl, rfl, by decide +kernel, rfl, by decide +kernel, by decide +kernel⟩
abbrev s_Lknows : Stmt := topS 38
abbrev n_Lknows : List Str := ["_law_company_here", "_law_one", "_law_other"]
theorem sc_Lknows : FnScope ["_law_company_here", "_law_one", "_law_other"] ["_law_company_here", "_law_one", "_law_other"] (defScope s_Lknows) := ⟨rfl, rfl, rfl, by decide +kernel, rfl, by decide +kernel, by decide +kernel⟩
abbrev s_Lsome_besides : Stmt := topS 39
abbrev n_Lsome_besides : List Str := ["_law_cup_here", "_law_named_here", "_law_company_here", "_law_left", "_law_found", "_law_turn"]
theorem sc_Lsome_besides : FnScope ["_law_cup_here", "_law_named_here", "_law_company_here", "_law_left", "_law_found", "_law_turn"] ["_law_cup_here", "_law_named_here", "_law_company_here"] (defScope s_Lsome_besides) := ⟨rfl, rfl, rfl, by decide +kernel, rfl, by decide +kernel, by decide +kernel⟩
abbrev s_Lpairs : Stmt := topS 40
abbrev n_Lpairs : List Str := ["_law_people", "_law_found", "_law_one", "_law_other"]
theorem sc_Lpairs : FnScope ["_law_people", "_law_found", "_law_one", "_law_other"] ["_law_people"] (defScope s_Lpairs) := ⟨rfl, rfl, rfl, by decide +kernel, rfl, by decide +kernel, by decide +kernel⟩
abbrev s_Lpart : Stmt := topS 41
abbrev n_Lpart : List Str := ["_law_named_here", "_law_company_here", "_law_besides", "_law_people", "_law_found", "_law_one", "_law_other"]
theorem sc_Lpart : FnScope ["_law_named_here", "_law_company_here", "_law_besides", "_law_people", "_law_found", "_law_one", "_law_other"] ["_law_named_here", "_law_company_here", "_law_besides"] (defScope s_Lpart) := ⟨rfl, rfl, rfl, by decide +kernel, rfl, by decide +kernel, by decide +kernel⟩
abbrev s_Lnamed : Stmt := topS 42
abbrev n_Lnamed : List Str := ["_law_cup_here"]
theorem sc_Lnamed : FnScope ["_law_cup_here"] ["_law_cup_here"] (defScope s_Lnamed) := ⟨rfl, rfl, rfl, by decide +kernel, rfl, by decide +kernel, by decide +kernel⟩
abbrev s_Lcompany : Stmt := topS 43
abbrev n_Lcompany : List Str := ["_law_cup_here", "_law_named_here", "_law_least", "_law_most", "_law_people", "_law_way", "_law_pair"]
theorem sc_Lcompany : FnScope ["_law_cup_here", "_law_named_here", "_law_least", "_law_most", "_law_people", "_law_way", "_law_pair"] ["_law_cup_here", "_law_named_here", "_law_least", "_law_most"] (defScope s_Lcompany) := ⟨rfl, rfl, rfl, by decide +kernel, rfl, by decide +kernel, by decide +kernel⟩
abbrev s_Ljudged : Stmt := topS 44
abbrev n_Ljudged : List Str := ["_law_named_here", "_law_value", "_law_tie"]
theorem sc_Ljudged : FnScope ["_law_named_here", "_law_value", "_law_tie"] ["_law_named_here", "_law_value"] (defScope s_Ljudged) := ⟨rfl, rfl, rfl, by decide +kernel, rfl, by decide +kernel, by decide +kernel⟩
abbrev s_Lbent : Stmt := topS 45
abbrev n_Lbent : List Str := ["_law_cup_here", "_law_company_here", "_law_people", "_law_ties", "_law_odd", "_law_tie", "_law_at", "_law_some_here"]
theorem sc_Lbent : FnScope ["_law_cup_here", "_law_company_here", "_law_people", "_law_ties", "_law_odd", "_law_tie", "_law_at", "_law_some_here"] ["_law_cup_here", "_law_company_here"] (defScope s_Lbent) := ⟨rfl, rfl, rfl, by decide +kernel, rfl, by decide +kernel, by decide +kernel⟩
abbrev s_Lright : Stmt := topS 46
abbrev n_Lright : List Str := ["_law_cup_here", "_law_named_here", "_law_company_here", "_law_person", "_law_others", "_law_told", "_law_besides", "_law_turn", "_law_value", "_law_other", "_law_one"]
theorem sc_Lright : FnScope ["_law_cup_here", "_law_named_here", "_law_company_here", "_law_person", "_law_others", "_law_told", "_law_besides", "_law_turn", "_law_value", "_law_other", "_law_one"] ["_law_cup_here", "_law_named_here", "_law_company_here"] (defScope s_Lright) := ⟨rfl, rfl, rfl, by decide +kernel, rfl, by decide +kernel, by decide +kernel⟩
abbrev s_Law : Stmt := topS 47
abbrev n_Law : List Str := ["_law_script", "_law_cup_here", "_law_turn", "_law_named_here", "_law_four", "_law_rows", "_law_value", "_law_due"]
theorem sc_Law : FnScope ["_law_script", "_law_cup_here", "_law_turn", "_law_named_here", "_law_four", "_law_rows", "_law_value", "_law_due"] ["_law_script"] (defScope s_Law) := ⟨rfl, rfl, rfl, by decide +kernel, rfl, by decide +kernel, by decide +kernel⟩
inductive Fid where
  | p_is_integer
  | p_is_between
  | p_is_tuple_of
  | p_is_ascending
  | p_are_unlike_between
  | p_is_pair_of
  | p_are_ties_of
  | p_is_company_of
  | p_check_named
  | p_check_company
  | p_check_person
  | p_check_other
  | p_check_besides
  | p_pairs_of
  | p_pair_of
  | p_part_for
  | p_is_company
  | p_do_know
  | p_known_to
  | p_part_of
  | Lroll
  | Lsome
  | Lare_whole
  | Ltwo
  | Lknows
  | Lsome_besides
  | Lpairs
  | Lpart
  | Lnamed
  | Lcompany
  | Ljudged
  | Lbent
  | Lright
def g_Lcup : FL := mFunF 2 (mAsg (mFn oAbs (mCons (mOp oIx (mOp oAdd (mFn oList (mCons (mVar 0) mNil)) (mLst (mCons (mC (.int 0)) mNil))) (mC (.int 0))) mNil)) (tgName 1)) (mCons (mIf (mOp oGe (mVar 1) (mOp oPow (mC (.int 10)) (mC (.int 18)))) (mOp oDiv (mVar 1) (mC (.int 43))) (mC (.int 0))) (mCons (mOp oAdd (mOp oMod (mFn oInt (mCons (mOp oAdd (mOp oMul (mVar 1) (mC (.int 251))) (mC (.int 2111))) mNil)) (mC (.int 2077503301))) (mC (.int 137))) mNil))
def B_p_is_integer (cl : Fid → FC) : FS :=
    (mRet (mAnd (mIs "int" (mVar 0)) (mNot (mIs "bool" (mVar 0)))))
def B_p_is_between (cl : Fid → FC) : FS :=
    (mRet (mAnd (mCall (cl .p_is_integer) (mCons (mVar 0) mNil)) (mChain oLe oLe (mVar 1) (mVar 0) (mVar 2))))
def B_p_is_tuple_of (cl : Fid → FC) : FS :=
    (mRet (mAnd (mIs "tuple" (mVar 0)) (mOp oEq (mFn oLen (mCons (mVar 0) mNil)) (mVar 1))))
def B_p_is_ascending (cl : Fid → FC) : FS :=
    (mRet (mFn oAll (mCons (mLcR rng1 (mCons (mOp oSub (mFn oLen (mCons (mVar 0) mNil)) (mC (.int 1))) mNil) (tgName 1) mYes (mOp oLtX (mOp oIx (mVar 0) (mVar 1)) (mOp oIx (mVar 0) (mOp oAdd (mVar 1) (mC (.int 1))))) [1]) mNil)))
def B_p_are_unlike_between (cl : Fid → FC) : FS :=
    (mSeq (mIfS (mB (mNot (mIs "tuple" (mVar 0)))) (mRet (mC (.bl false))) mSkip)
    (mSeq (mIfS (mB (mNot (mFn oAll (mCons (mLc itemsT (mVar 0) (tgName 3) mYes (mCall (cl .p_is_between) (mCons (mVar 3) (mCons (mVar 1) (mCons (mVar 2) mNil)))) [3]) mNil)))) (mRet (mC (.bl false))) mSkip)
    (mRet (mOp oEq (mLenSet (mVar 0)) (mFn oLen (mCons (mVar 0) mNil))))))
def B_p_is_pair_of (cl : Fid → FC) : FS :=
    (mSeq (mIfS (mB (mNot (mCall (cl .p_is_tuple_of) (mCons (mVar 1) (mCons (mC (.int 2)) mNil))))) (mRet (mC (.bl false))) mSkip)
    (mSeq (mAsg (mVar 1) (tgTup 2 (tgCons (tgName 2) (tgCons (tgName 3) tgNil))))
    (mRet (mAnd (mCall (cl .p_is_between) (mCons (mVar 2) (mCons (mC (.int 0)) (mCons (mOp oSub (mVar 0) (mC (.int 1))) mNil)))) (mCall (cl .p_is_between) (mCons (mVar 3) (mCons (mOp oAdd (mVar 2) (mC (.int 1))) (mCons (mOp oSub (mVar 0) (mC (.int 1))) mNil))))))))
def B_p_are_ties_of (cl : Fid → FC) : FS :=
    (mSeq (mIfS (mB (mNot (mIs "tuple" (mVar 1)))) (mRet (mC (.bl false))) mSkip)
    (mRet (mAnd (mFn oAll (mCons (mLc itemsT (mVar 1) (tgName 2) mYes (mCall (cl .p_is_pair_of) (mCons (mVar 0) (mCons (mVar 2) mNil))) [2]) mNil)) (mCall (cl .p_is_ascending) (mCons (mVar 1) mNil)))))
def B_p_is_company_of (cl : Fid → FC) : FS :=
    (mSeq (mIfS (mB (mNot (mCall (cl .p_is_tuple_of) (mCons (mVar 1) (mCons (mC (.int 2)) mNil))))) (mRet (mC (.bl false))) mSkip)
    (mSeq (mAsg (mVar 1) (tgTup 2 (tgCons (tgName 2) (tgCons (tgName 3) tgNil))))
    (mRet (mAnd (mCall (cl .p_is_between) (mCons (mVar 2) (mCons (mVar 0) (mCons (mC (.int 9)) mNil)))) (mCall (cl .p_are_ties_of) (mCons (mVar 2) (mCons (mVar 3) mNil)))))))
def B_p_check_named (cl : Fid → FC) : FS :=
    (mIfS (mB (mNot (mCall (cl .p_is_between) (mCons (mVar 0) (mCons (mC (.int 1)) (mCons (mC (.int 3)) mNil)))))) mNever mSkip)
def B_p_check_company (cl : Fid → FC) : FS :=
    (mSeq (mDrop (mCall (cl .p_check_named) (mCons (mVar 0) mNil)))
    (mIfS (mB (mNot (mCall (cl .p_is_company_of) (mCons (mVar 0) (mCons (mVar 1) mNil))))) mNever mSkip))
def B_p_check_person (cl : Fid → FC) : FS :=
    (mIfS (mB (mNot (mCall (cl .p_is_between) (mCons (mVar 1) (mCons (mC (.int 0)) (mCons (mOp oSub (mOp oIx (mVar 0) (mC (.int 0))) (mC (.int 1))) mNil)))))) mNever mSkip)
def B_p_check_other (cl : Fid → FC) : FS :=
    (mSeq (mDrop (mCall (cl .p_check_person) (mCons (mVar 0) (mCons (mVar 2) mNil))))
    (mIfS (mB (mOp oEq (mVar 1) (mVar 2))) mNever mSkip))
def B_p_check_besides (cl : Fid → FC) : FS :=
    (mIfS (mB (mNot (mCall (cl .p_are_unlike_between) (mCons (mVar 2) (mCons (mVar 0) (mCons (mOp oSub (mOp oIx (mVar 1) (mC (.int 0))) (mC (.int 1))) mNil)))))) mNever mSkip)
def B_p_pairs_of (cl : Fid → FC) : FS :=
    (mRet (mLc2 (fiR rng1 (mCons (mVar 0) mNil)) (tgName 1) mYes (fiR rng2 (mCons (mOp oAdd (mVar 1) (mC (.int 1))) (mCons (mVar 0) mNil))) (tgName 2) mYes (mTup (mCons (mVar 1) (mCons (mVar 2) mNil))) [1, 2] [2]))
def B_p_pair_of (cl : Fid → FC) : FS :=
    (mRet (mIf (mOp oLtX (mVar 0) (mVar 1)) (mTup (mCons (mVar 0) (mCons (mVar 1) mNil))) (mTup (mCons (mVar 1) (mCons (mVar 0) mNil)))))
def B_p_part_for (cl : Fid → FC) : FS :=
    (mSeq (mAsg (mOp oAdd (mTupR (mEnd1 (mVar 0))) (mVar 2)) (tgName 3))
    (mSeq (mAsg (mDc (.dt [] []) itemsT (mOp oIx (mVar 1) (mC (.int 1))) (tgName 6) mYes (mVar 6) (mC (.bl true)) [6]) (tgName 4))
    (mSeq (mSet 5 (mLc itemsL (mCall (cl .p_pairs_of) (mCons (mFn oLen (mCons (mVar 3) mNil)) mNil)) (tgTup 2 (tgCons (tgName 7) (tgCons (tgName 8) tgNil))) (mB (mOp oInX (mCall (cl .p_pair_of) (mCons (mOp oIx (mVar 3) (mVar 7)) (mCons (mOp oIx (mVar 3) (mVar 8)) mNil))) (mVar 4))) (mTup (mCons (mVar 7) (mCons (mVar 8) mNil))) [7, 8]))
    (mRet (mTup (mCons (mFn oLen (mCons (mVar 3) mNil)) (mCons (mFn oTuple (mCons (mVar 5) mNil)) mNil)))))))
def B_p_is_company (cl : Fid → FC) : FS :=
    (mSeq (mDrop (mCall (cl .p_check_named) (mCons (mVar 0) mNil)))
    (mRet (mCall (cl .p_is_company_of) (mCons (mVar 0) (mCons (mVar 1) mNil)))))
def B_p_do_know (cl : Fid → FC) : FS :=
    (mSeq (mDrop (mCall (cl .p_check_company) (mCons (mVar 0) (mCons (mVar 1) mNil))))
    (mSeq (mDrop (mCall (cl .p_check_person) (mCons (mVar 1) (mCons (mVar 2) mNil))))
    (mSeq (mDrop (mCall (cl .p_check_other) (mCons (mVar 1) (mCons (mVar 2) (mCons (mVar 3) mNil)))))
    (mRet (mOp oInX (mCall (cl .p_pair_of) (mCons (mVar 2) (mCons (mVar 3) mNil))) (mOp oIx (mVar 1) (mC (.int 1))))))))
def B_p_known_to (cl : Fid → FC) : FS :=
    (mSeq (mDrop (mCall (cl .p_check_company) (mCons (mVar 0) (mCons (mVar 1) mNil))))
    (mSeq (mDrop (mCall (cl .p_check_person) (mCons (mVar 1) (mCons (mVar 2) mNil))))
    (mRet (mKnown 2 1))))
def B_p_part_of (cl : Fid → FC) : FS :=
    (mSeq (mDrop (mCall (cl .p_check_company) (mCons (mVar 0) (mCons (mVar 1) mNil))))
    (mSeq (mDrop (mCall (cl .p_check_besides) (mCons (mVar 0) (mCons (mVar 1) (mCons (mVar 2) mNil)))))
    (mRet (mCall (cl .p_part_for) (mCons (mVar 0) (mCons (mVar 1) (mCons (mVar 2) mNil)))))))
def B_Lroll (cl : Fid → FC) : FS :=
    (mSeq (mIfS (mB (mOp oGt (mOp oIx (mVar 0) (mC (.int 0))) (mC (.int 0)))) (mSeq (mAsg (mOp oMod (mFn oInt (mCons (mOp oIx (mVar 0) (mC (.int 0))) mNil)) (mVar 1)) (tgName 2))
    (mSeq (mStore (mOp oDiv (mOp oIx (mVar 0) (mC (.int 0))) (mVar 1)) (mVar 0) (mC (.int 0)))
    (mRet (mVar 2)))) mSkip)
    (mSeq (mStore (mOp oMod (mFn oInt (mCons (mOp oAdd (mOp oMul (mOp oIx (mVar 0) (mC (.int 1))) (mC (.int 30983))) (mC (.int 7933))) mNil)) (mC (.int 2147483563))) (mVar 0) (mC (.int 1)))
    (mSeq (mAsg (mOp oMod (mFn oInt (mCons (mOp oMul (mOp oIx (mVar 0) (mC (.int 1))) (mOp oAdd (mOp oIx (mVar 0) (mC (.int 1))) (mC (.int 197)))) mNil)) (mC (.int 2147483587))) (tgName 3))
    (mRet (mOp oMod (mFn oInt (mCons (mOp oDiv (mVar 3) (mC (.int 773))) mNil)) (mVar 1))))))
def B_Lsome (cl : Fid → FC) : FS :=
    (mRet (mOp oIx (mVar 1) (mCall (cl .Lroll) (mCons (mVar 0) (mCons (mFn oLen (mCons (mVar 1) mNil)) mNil)))))
def B_Lare_whole (cl : Fid → FC) : FS :=
    (mSeq (mIfS (mB (mNot (mIs "tuple" (mVar 0)))) (mRet (mC (.bl false))) mSkip)
    (mRet (mOp oEq (mLc itemsT (mVar 0) (tgName 3) (mB (mOr (mIs "bool" (mVar 3)) (mOr (mNot (mIs "int" (mVar 3))) (mNot (mChain oLe oLe (mVar 1) (mVar 3) (mVar 2)))))) (mC (.int 1)) [3]) (mLst mNil))))
def B_Ltwo (cl : Fid → FC) : FS :=
    (mRet (mIf (mOp oLtX (mVar 0) (mVar 1)) (mTup (mCons (mVar 0) (mCons (mVar 1) mNil))) (mTup (mCons (mVar 1) (mCons (mVar 0) mNil)))))
def B_Lknows (cl : Fid → FC) : FS :=
    (mRet (mOp oInX (mCall (cl .Ltwo) (mCons (mVar 1) (mCons (mVar 2) mNil))) (mOp oIx (mVar 0) (mC (.int 1)))))
def B_Lsome_besides (cl : Fid → FC) : FS :=
    (mNewP 3 4 (mLstR (mEnd2 (mVar 1) (mOp oIx (mVar 2) (mC (.int 0))))) (mTup mNil) (mSeq (mForR rng1 (mCons (mCall (cl .Lroll) (mCons (mVar 0) (mCons (mOp oAdd (mFn oLen (mCons (mVar 3) mNil)) (mC (.int 1))) mNil))) mNil) (tgName 5) (mAsg (mOp oAdd (mVar 4) (mTup (mCons (mPop (mVar 3) (mCall (cl .Lroll) (mCons (mVar 0) (mCons (mFn oLen (mCons (mVar 3) mNil)) mNil)))) mNil))) (tgName 4)))
    (mRet (mVar 4))))
def B_Lpairs (cl : Fid → FC) : FS :=
    (mSeq (mAsg (mLst mNil) (tgName 1))
    (mSeq (mForR rng1 (mCons (mVar 0) mNil) (tgName 2) (mAsg (mOp oAdd (mVar 1) (mLcR rng2 (mCons (mOp oAdd (mVar 2) (mC (.int 1))) (mCons (mVar 0) mNil)) (tgName 3) mYes (mTup (mCons (mVar 2) (mCons (mVar 3) mNil))) [3])) (tgName 1)))
    (mRet (mVar 1))))
def B_Lpart (cl : Fid → FC) : FS :=
    (mSeq (mAsg (mOp oAdd (mLstR (mEnd1 (mVar 0))) (mFn oList (mCons (mVar 2) mNil))) (tgName 3))
    (mSeq (mSet 4 (mLc itemsL (mCall (cl .Lpairs) (mCons (mFn oLen (mCons (mVar 3) mNil)) mNil)) (tgTup 2 (tgCons (tgName 5) (tgCons (tgName 6) tgNil))) (mB (mCall (cl .Lknows) (mCons (mVar 1) (mCons (mOp oIx (mVar 3) (mVar 5)) (mCons (mOp oIx (mVar 3) (mVar 6)) mNil))))) (mTup (mCons (mVar 5) (mCons (mVar 6) mNil))) [5, 6]))
    (mRet (mTup (mCons (mFn oLen (mCons (mVar 3) mNil)) (mCons (mFn oTuple (mCons (mVar 4) mNil)) mNil))))))
def B_Lnamed (cl : Fid → FC) : FS :=
    (mRet (mCall (cl .Lsome) (mCons (mVar 0) (mCons (mLst (mCons (mC (.int 1)) (mCons (mC (.int 1)) (mCons (mC (.int 2)) (mCons (mC (.int 2)) (mCons (mC (.int 2)) (mCons (mC (.int 2)) (mCons (mC (.int 2)) (mCons (mC (.int 3)) mNil))))))))) mNil))))
def B_Lcompany (cl : Fid → FC) : FS :=
    (mSeq (mPar2 4 5 (mCons (mOp oAdd (mOp oAdd (mVar 1) (mVar 2)) (mCall (cl .Lroll) (mCons (mVar 0) (mCons (mOp oAdd (mOp oSub (mVar 3) (mVar 2)) (mC (.int 1))) mNil)))) (mCons (mCall (cl .Lroll) (mCons (mVar 0) (mCons (mC (.int 8)) mNil))) mNil)))
    (mSeq (mIfS (mB (mOp oLtX (mVar 5) (mC (.int 2)))) (mRet (mTup (mCons (mVar 4) (mCons (mIf (mOp oEq (mVar 5) (mC (.int 0))) (mFn oTuple (mCons (mCall (cl .Lpairs) (mCons (mVar 4) mNil)) mNil)) (mTup mNil)) mNil)))) mSkip)
    (mRet (mTup (mCons (mVar 4) (mCons (mFn oTuple (mCons (mLc itemsL (mCall (cl .Lpairs) (mCons (mVar 4) mNil)) (tgName 6) (mB (mOp oEq (mCall (cl .Lroll) (mCons (mVar 0) (mCons (mC (.int 2)) mNil))) (mC (.int 0)))) (mVar 6) [6]) mNil)) mNil))))))
def B_Ljudged (cl : Fid → FC) : FS :=
    (mSeq (mIfS (mB (mOr (mNot (mIs "tuple" (mVar 1))) (mOr (mOp oNe (mFn oLen (mCons (mVar 1) mNil)) (mC (.int 2))) (mOr (mNot (mCall (cl .Lare_whole) (mCons (mSl (mVar 1) mNo (mPart (mC (.int 1)))) (mCons (mVar 0) (mCons (mC (.int 9)) mNil))))) (mNot (mIs "tuple" (mOp oIx (mVar 1) (mC (.int 1))))))))) (mRet (mC (.bl false))) mSkip)
    (mSeq (mIfS (mB (mOp oNe (mLc itemsT (mOp oIx (mVar 1) (mC (.int 1))) (tgName 2) (mB (mOr (mNot (mCall (cl .Lare_whole) (mCons (mVar 2) (mCons (mC (.int 0)) (mCons (mOp oSub (mOp oIx (mVar 1) (mC (.int 0))) (mC (.int 1))) mNil))))) (mOr (mOp oNe (mFn oLen (mCons (mVar 2) mNil)) (mC (.int 2))) (mOp oGe (mOp oIx (mVar 2) (mC (.int 0))) (mOp oIx (mVar 2) (mC (.int 1))))))) (mC (.int 1)) [2]) (mLst mNil))) (mRet (mC (.bl false))) mSkip)
    (mRet (mOp oEq (mFn oList (mCons (mOp oIx (mVar 1) (mC (.int 1))) mNil)) (mSortSet (mOp oIx (mVar 1) (mC (.int 1))))))))
def B_Lbent (cl : Fid → FC) : FS :=
    (mSeq (mAsg (mVar 1) (tgTup 2 (tgCons (tgName 2) (tgCons (tgName 3) tgNil))))
    (mSeq (mAsg (mCall (cl .Lsome) (mCons (mVar 0) (mCons (mLst (mCons (mUn oNeg (mC (.int 1))) (mCons (mC (.int 0)) (mCons (mC (.int 1)) (mCons (mC (.int 2)) (mCons (mVar 2) (mCons (mOp oSub (mVar 2) (mC (.int 1))) (mCons (mC .non) (mCons (mC (.bl true)) (mCons (mC (.str "0")) (mCons (mC (.int 10)) mNil))))))))))) mNil))) (tgName 4))
    (mSeq (mAsg (mCall (cl .Lsome) (mCons (mVar 0) (mCons (mLst (mCons (mTup (mCons (mC (.int 0)) (mCons (mVar 4) mNil))) (mCons (mTup (mCons (mVar 4) (mCons (mC (.int 1)) mNil))) (mCons (mTup (mCons (mC (.int 1)) (mCons (mC (.int 0)) mNil))) (mCons (mTup (mCons (mC (.int 0)) (mCons (mC (.int 0)) mNil))) (mCons (mTup (mCons (mC (.int 0)) (mCons (mC (.int 1)) (mCons (mC (.int 2)) mNil)))) (mCons (mLst (mCons (mC (.int 0)) (mCons (mC (.int 1)) mNil))) (mCons (mVar 4) (mCons (mTup (mCons (mC (.int 0)) (mCons (mOp oSub (mVar 2) (mC (.int 1))) mNil))) mNil))))))))) mNil))) (tgName 5))
    (mSeq (mAsg (mCall (cl .Lroll) (mCons (mVar 0) (mCons (mOp oAdd (mFn oLen (mCons (mVar 3) mNil)) (mC (.int 1))) mNil))) (tgName 6))
    (mSeq (mAsg (mLst (mCons (mTup (mCons (mVar 2) (mCons (mOp oAdd (mOp oAdd (mSl (mVar 3) mNo (mPart (mVar 6))) (mTup (mCons (mVar 5) mNil))) (mSl (mVar 3) (mPart (mVar 6)) mNo)) mNil))) (mCons (mTup (mCons (mVar 2) (mCons (mOp oAdd (mOp oAdd (mSl (mVar 3) mNo (mPart (mVar 6))) (mTup (mCons (mVar 5) mNil))) (mSl (mVar 3) (mPart (mOp oAdd (mVar 6) (mC (.int 1)))) mNo)) mNil))) (mCons (mTup (mCons (mVar 4) (mCons (mVar 3) mNil))) (mCons (mTup (mCons (mVar 2) (mCons (mRev (mVar 3)) mNil))) (mCons (mTup (mCons (mOp oSub (mVar 2) (mC (.int 1))) (mCons (mVar 3) mNil))) mNil)))))) (tgName 7))
    (mRet (mCall (cl .Lsome) (mCons (mVar 0) (mCons (mOp oAdd (mOp oAdd (mVar 7) (mSl (mVar 7) mNo (mPart (mC (.int 2))))) (mLst (mCons (mTup (mCons (mOp oAdd (mVar 2) (mC (.int 1))) (mCons (mVar 3) mNil))) (mCons (mTup (mCons (mVar 2) (mCons (mFn oList (mCons (mVar 3) mNil)) mNil))) (mCons (mLst (mCons (mVar 2) (mCons (mVar 3) mNil))) (mCons (mTup (mCons (mVar 2) mNil)) (mCons (mC .non) (mCons (mTup (mCons (mVar 3) (mCons (mVar 2) mNil))) (mCons (mTup (mCons (mVar 2) (mCons (mOp oAdd (mVar 3) (mSl (mVar 3) (mPart (mUn oNeg (mC (.int 1)))) mNo)) mNil))) mNil))))))))) mNil)))))))))
def B_Lright (cl : Fid → FC) : FS :=
    (mSeq (mIfS (mB (mOp oIsNot (mCall (cl .p_is_company) (mCons (mVar 1) (mCons (mVar 2) mNil))) (mC (.bl true)))) (mRet (mC (.bl false))) mSkip)
    (mSeq (mForR rng1 (mCons (mOp oIx (mVar 2) (mC (.int 0))) mNil) (tgName 3) (mSeq (mSet 4 (mLcR rng1 (mCons (mOp oIx (mVar 2) (mC (.int 0))) mNil) (tgName 9) (mB (mOp oNe (mVar 9) (mVar 3))) (mVar 9) [9]))
    (mSeq (mIfS (mB (mOp oNe (mCall (cl .p_known_to) (mCons (mVar 1) (mCons (mVar 2) (mCons (mVar 3) mNil)))) (mFn oTuple (mCons (mLc itemsL (mVar 4) (tgName 9) (mB (mCall (cl .Lknows) (mCons (mVar 2) (mCons (mVar 3) (mCons (mVar 9) mNil))))) (mVar 9) [9]) mNil)))) (mRet (mC (.bl false))) mSkip)
    (mSeq (mSet 5 (mLc itemsL (mVar 4) (tgName 9) mYes (mCall (cl .p_do_know) (mCons (mVar 1) (mCons (mVar 2) (mCons (mVar 3) (mCons (mVar 9) mNil))))) [9]))
    (mIfS (mB (mOr (mOp oNe (mVar 5) (mLc itemsL (mVar 4) (tgName 9) mYes (mCall (cl .Lknows) (mCons (mVar 2) (mCons (mVar 3) (mCons (mVar 9) mNil)))) [9])) (mOp oNe (mLc itemsL (mVar 5) (tgName 10) (mB (mNot (mIs "bool" (mVar 10)))) (mC (.int 1)) [10]) (mLst mNil)))) (mRet (mC (.bl false))) mSkip)))))
    (mSeq (mAsg (mCall (cl .Lsome_besides) (mCons (mVar 0) (mCons (mVar 1) (mCons (mVar 2) mNil)))) (tgName 6))
    (mSeq (mIfS (mB (mOp oNe (mCall (cl .p_part_of) (mCons (mVar 1) (mCons (mVar 2) (mCons (mVar 6) mNil)))) (mCall (cl .Lpart) (mCons (mVar 1) (mCons (mVar 2) (mCons (mVar 6) mNil)))))) (mRet (mC (.bl false))) mSkip)
    (mSeq (mForR rng1 (mCons (mC (.int 4)) mNil) (tgName 7) (mSeq (mAsg (mCall (cl .Lbent) (mCons (mVar 0) (mCons (mVar 2) mNil))) (tgName 8))
    (mSeq (mAsg (mCall (cl .p_is_company) (mCons (mVar 1) (mCons (mVar 8) mNil))) (tgName 5))
    (mIfS (mB (mOr (mNot (mIs "bool" (mVar 5))) (mOp oNe (mVar 5) (mCall (cl .Ljudged) (mCons (mVar 1) (mCons (mVar 8) mNil)))))) (mRet (mC (.bl false))) mSkip))))
    (mRet (mC (.bl true))))))))
def B_Law (cl : Fid → FC) : FS :=
    (mMu 1 g_Lcup (mCons (mVar 0) mNil) (mSeq (mForR rng1 (mCons (mC (.int 4)) mNil) (tgName 2) (mSeq (mAsg (mCall (cl .Lnamed) (mCons (mVar 1) mNil)) (tgName 3))
    (mIfS (mB (mNot (mCall (cl .Lright) (mCons (mVar 1) (mCons (mVar 3) (mCons (mCall (cl .Lcompany) (mCons (mVar 1) (mCons (mVar 3) (mCons (mC (.int 0)) (mCons (mC (.int 5)) mNil))))) mNil)))))) (mRet (mC (.bl false))) mSkip)))
    (mSeq (mAsg (mTup (mCons (mC (.int 4)) (mCons (mTup (mCons (mTup (mCons (mC (.int 0)) (mCons (mC (.int 2)) mNil))) (mCons (mTup (mCons (mC (.int 1)) (mCons (mC (.int 3)) mNil))) mNil))) mNil))) (tgName 4))
    (mSeq (mAsg (mLst (mCons (mTup (mCons (mC (.int 2)) (mCons (mVar 4) (mCons (mC (.bl true)) mNil)))) (mCons (mTup (mCons (mC (.int 1)) (mCons (mVar 4) (mCons (mC (.bl true)) mNil)))) (mCons (mTup (mCons (mC (.int 3)) (mCons (mTup (mCons (mC (.int 2)) (mCons (mTup mNil) mNil))) (mCons (mC (.bl false)) mNil)))) (mCons (mTup (mCons (mC (.int 1)) (mCons (mTup (mCons (mC (.int 2)) (mCons (mTup (mCons (mTup (mCons (mC (.int 1)) (mCons (mC (.int 0)) mNil))) mNil)) mNil))) (mCons (mC (.bl false)) mNil)))) (mCons (mTup (mCons (mC (.int 1)) (mCons (mTup (mCons (mC (.int 1)) (mCons (mTup mNil) mNil))) (mCons (mC (.bl true)) mNil)))) (mCons (mTup (mCons (mC (.int 1)) (mCons (mTup (mCons (mC (.int 0)) (mCons (mTup mNil) mNil))) (mCons (mC (.bl false)) mNil)))) (mCons (mTup (mCons (mC (.int 3)) (mCons (mTup (mCons (mC (.int 9)) (mCons (mTup mNil) mNil))) (mCons (mC (.bl true)) mNil)))) mNil)))))))) (tgName 5))
    (mSeq (mAsg (mOp oAdd (mVar 5) (mLst (mCons (mTup (mCons (mC (.int 3)) (mCons (mTup (mCons (mC (.int 10)) (mCons (mTup mNil) mNil))) (mCons (mC (.bl false)) mNil)))) (mCons (mTup (mCons (mC (.int 2)) (mCons (mTup (mCons (mC (.int 4)) (mCons (mTup (mCons (mTup (mCons (mC (.int 1)) (mCons (mC (.int 3)) mNil))) (mCons (mTup (mCons (mC (.int 0)) (mCons (mC (.int 2)) mNil))) mNil))) mNil))) (mCons (mC (.bl false)) mNil)))) (mCons (mTup (mCons (mC (.int 2)) (mCons (mTup (mCons (mC (.int 4)) (mCons (mTup (mCons (mTup (mCons (mC (.int 0)) (mCons (mC (.int 2)) mNil))) (mCons (mTup (mCons (mC (.int 0)) (mCons (mC (.int 2)) mNil))) mNil))) mNil))) (mCons (mC (.bl false)) mNil)))) (mCons (mTup (mCons (mC (.int 2)) (mCons (mTup (mCons (mC (.int 4)) (mCons (mTup (mCons (mTup (mCons (mC (.int 0)) (mCons (mC (.int 4)) mNil))) mNil)) mNil))) (mCons (mC (.bl false)) mNil)))) (mCons (mTup (mCons (mC (.int 2)) (mCons (mTup (mCons (mC (.int 4)) (mCons (mTup (mCons (mTup (mCons (mC (.int 2)) (mCons (mC (.int 2)) mNil))) mNil)) mNil))) (mCons (mC (.bl false)) mNil)))) mNil))))))) (tgName 5))
    (mSeq (mIfS (mB (mOp oNe (mLc itemsL (mVar 5) (tgTup 3 (tgCons (tgName 3) (tgCons (tgName 6) (tgCons (tgName 7) tgNil)))) (mB (mOp oNe (mCall (cl .p_is_company) (mCons (mVar 3) (mCons (mVar 6) mNil))) (mVar 7))) (mC (.int 1)) [3, 6, 7]) (mLst mNil))) (mRet (mC (.bl false))) mSkip)
    (mSeq (mIfS (mB (mOr (mOp oIsNot (mCall (cl .p_do_know) (mCons (mC (.int 2)) (mCons (mVar 4) (mCons (mC (.int 3)) (mCons (mC (.int 1)) mNil))))) (mC (.bl true))) (mOr (mOp oIsNot (mCall (cl .p_do_know) (mCons (mC (.int 2)) (mCons (mVar 4) (mCons (mC (.int 0)) (mCons (mC (.int 1)) mNil))))) (mC (.bl false))) (mOr (mOp oNe (mCall (cl .p_known_to) (mCons (mC (.int 2)) (mCons (mVar 4) (mCons (mC (.int 0)) mNil)))) (mTup (mCons (mC (.int 2)) mNil))) (mOp oNe (mCall (cl .p_known_to) (mCons (mC (.int 1)) (mCons (mTup (mCons (mC (.int 1)) (mCons (mTup mNil) mNil))) (mCons (mC (.int 0)) mNil)))) (mTup mNil)))))) (mRet (mC (.bl false))) mSkip)
    (mSeq (mIfS (mB (mOr (mOp oNe (mCall (cl .p_part_of) (mCons (mC (.int 2)) (mCons (mVar 4) (mCons (mTup (mCons (mC (.int 3)) mNil)) mNil)))) (mTup (mCons (mC (.int 3)) (mCons (mTup (mCons (mTup (mCons (mC (.int 1)) (mCons (mC (.int 2)) mNil))) mNil)) mNil)))) (mOr (mOp oNe (mCall (cl .p_part_of) (mCons (mC (.int 2)) (mCons (mVar 4) (mCons (mTup (mCons (mC (.int 3)) (mCons (mC (.int 2)) mNil))) mNil)))) (mTup (mCons (mC (.int 4)) (mCons (mTup (mCons (mTup (mCons (mC (.int 0)) (mCons (mC (.int 3)) mNil))) (mCons (mTup (mCons (mC (.int 1)) (mCons (mC (.int 2)) mNil))) mNil))) mNil)))) (mOp oNe (mCall (cl .p_part_of) (mCons (mC (.int 2)) (mCons (mVar 4) (mCons (mTup mNil) mNil)))) (mTup (mCons (mC (.int 2)) (mCons (mTup mNil) mNil))))))) (mRet (mC (.bl false))) mSkip)
    (mRet (mAnd (mOp oEq (mCall (cl .p_part_of) (mCons (mC (.int 1)) (mCons (mTup (mCons (mC (.int 5)) (mCons (mTup (mCons (mTup (mCons (mC (.int 1)) (mCons (mC (.int 4)) mNil))) (mCons (mTup (mCons (mC (.int 2)) (mCons (mC (.int 3)) mNil))) mNil))) mNil))) (mCons (mTup (mCons (mC (.int 4)) (mCons (mC (.int 1)) (mCons (mC (.int 3)) mNil)))) mNil)))) (mTup (mCons (mC (.int 4)) (mCons (mTup (mCons (mTup (mCons (mC (.int 1)) (mCons (mC (.int 2)) mNil))) mNil)) mNil)))) (mOp oEq (mCall (cl .p_part_of) (mCons (mC (.int 3)) (mCons (mTup (mCons (mC (.int 3)) (mCons (mTup (mCons (mTup (mCons (mC (.int 0)) (mCons (mC (.int 2)) mNil))) mNil)) mNil))) (mCons (mTup mNil) mNil)))) (mTup (mCons (mC (.int 3)) (mCons (mTup (mCons (mTup (mCons (mC (.int 0)) (mCons (mC (.int 2)) mNil))) mNil)) mNil))))))))))))))
def bodies (cl : Fid → FC) : Fid → FC
  | .p_is_integer => mFun 1 (B_p_is_integer cl)
  | .p_is_between => mFun 3 (B_p_is_between cl)
  | .p_is_tuple_of => mFun 2 (B_p_is_tuple_of cl)
  | .p_is_ascending => mFun 2 (B_p_is_ascending cl)
  | .p_are_unlike_between => mFun 4 (B_p_are_unlike_between cl)
  | .p_is_pair_of => mFun 4 (B_p_is_pair_of cl)
  | .p_are_ties_of => mFun 3 (B_p_are_ties_of cl)
  | .p_is_company_of => mFun 4 (B_p_is_company_of cl)
  | .p_check_named => mFun 1 (B_p_check_named cl)
  | .p_check_company => mFun 2 (B_p_check_company cl)
  | .p_check_person => mFun 2 (B_p_check_person cl)
  | .p_check_other => mFun 3 (B_p_check_other cl)
  | .p_check_besides => mFun 3 (B_p_check_besides cl)
  | .p_pairs_of => mFun 3 (B_p_pairs_of cl)
  | .p_pair_of => mFun 2 (B_p_pair_of cl)
  | .p_part_for => mFun 9 (B_p_part_for cl)
  | .p_is_company => mFun 2 (B_p_is_company cl)
  | .p_do_know => mFun 4 (B_p_do_know cl)
  | .p_known_to => mFun 3 (B_p_known_to cl)
  | .p_part_of => mFun 3 (B_p_part_of cl)
  | .Lroll => mFun 4 (B_Lroll cl)
  | .Lsome => mFun 2 (B_Lsome cl)
  | .Lare_whole => mFun 4 (B_Lare_whole cl)
  | .Ltwo => mFun 2 (B_Ltwo cl)
  | .Lknows => mFun 3 (B_Lknows cl)
  | .Lsome_besides => mFun 6 (B_Lsome_besides cl)
  | .Lpairs => mFun 4 (B_Lpairs cl)
  | .Lpart => mFun 7 (B_Lpart cl)
  | .Lnamed => mFun 1 (B_Lnamed cl)
  | .Lcompany => mFun 7 (B_Lcompany cl)
  | .Ljudged => mFun 3 (B_Ljudged cl)
  | .Lbent => mFun 8 (B_Lbent cl)
  | .Lright => mFun 11 (B_Lright cl)
/-- the mirror, so many calls deep -/
def G : Nat → Fid → FC
  | 0, _ => fun _ _ => none
  | n + 1, f => bodies (G n) f
def gLaw (n : Nat) : FC := mFun 8 (B_Law (G n))
end MT

/-! each def keeps to its mirror -/
namespace MT
open PySem PySem.Spec PyProof.Rows L2 NL
/-- what the top has left -/
structure Tx (K : PySem.W.Frag) (mg : Str → Option Value) where
  a_p_is_integer : Addr
  d_p_is_integer : FuncData
  F_p_is_integer : Fun K "is_integer" "is_integer" s_p_is_integer a_p_is_integer d_p_is_integer
  g_p_is_integer : mg "is_integer" = some (.ref a_p_is_integer)
  b_p_is_integer : Binds K d_p_is_integer ["value"] []
  a_p_is_between : Addr
  d_p_is_between : FuncData
  F_p_is_between : Fun K "is_between" "is_between" s_p_is_between a_p_is_between d_p_is_between
  g_p_is_between : mg "is_between" = some (.ref a_p_is_between)
  b_p_is_between : Binds K d_p_is_between ["value", "least", "most"] []
  a_p_is_tuple_of : Addr
  d_p_is_tuple_of : FuncData
  F_p_is_tuple_of : Fun K "is_tuple_of" "is_tuple_of" s_p_is_tuple_of a_p_is_tuple_of d_p_is_tuple_of
  g_p_is_tuple_of : mg "is_tuple_of" = some (.ref a_p_is_tuple_of)
  b_p_is_tuple_of : Binds K d_p_is_tuple_of ["value", "many"] []
  a_p_is_ascending : Addr
  d_p_is_ascending : FuncData
  F_p_is_ascending : Fun K "is_ascending" "is_ascending" s_p_is_ascending a_p_is_ascending d_p_is_ascending
  g_p_is_ascending : mg "is_ascending" = some (.ref a_p_is_ascending)
  b_p_is_ascending : Binds K d_p_is_ascending ["values"] []
  a_p_are_unlike_between : Addr
  d_p_are_unlike_between : FuncData
  F_p_are_unlike_between : Fun K "are_unlike_between" "are_unlike_between" s_p_are_unlike_between a_p_are_unlike_between d_p_are_unlike_between
  g_p_are_unlike_between : mg "are_unlike_between" = some (.ref a_p_are_unlike_between)
  b_p_are_unlike_between : Binds K d_p_are_unlike_between ["value", "least", "most"] []
  a_p_is_pair_of : Addr
  d_p_is_pair_of : FuncData
  F_p_is_pair_of : Fun K "is_pair_of" "is_pair_of" s_p_is_pair_of a_p_is_pair_of d_p_is_pair_of
  g_p_is_pair_of : mg "is_pair_of" = some (.ref a_p_is_pair_of)
  b_p_is_pair_of : Binds K d_p_is_pair_of ["people", "value"] []
  a_p_are_ties_of : Addr
  d_p_are_ties_of : FuncData
  F_p_are_ties_of : Fun K "are_ties_of" "are_ties_of" s_p_are_ties_of a_p_are_ties_of d_p_are_ties_of
  g_p_are_ties_of : mg "are_ties_of" = some (.ref a_p_are_ties_of)
  b_p_are_ties_of : Binds K d_p_are_ties_of ["people", "value"] []
  a_p_is_company_of : Addr
  d_p_is_company_of : FuncData
  F_p_is_company_of : Fun K "is_company_of" "is_company_of" s_p_is_company_of a_p_is_company_of d_p_is_company_of
  g_p_is_company_of : mg "is_company_of" = some (.ref a_p_is_company_of)
  b_p_is_company_of : Binds K d_p_is_company_of ["named", "value"] []
  a_p_check_named : Addr
  d_p_check_named : FuncData
  F_p_check_named : Fun K "check_named" "check_named" s_p_check_named a_p_check_named d_p_check_named
  g_p_check_named : mg "check_named" = some (.ref a_p_check_named)
  b_p_check_named : Binds K d_p_check_named ["named"] []
  a_p_check_company : Addr
  d_p_check_company : FuncData
  F_p_check_company : Fun K "check_company" "check_company" s_p_check_company a_p_check_company d_p_check_company
  g_p_check_company : mg "check_company" = some (.ref a_p_check_company)
  b_p_check_company : Binds K d_p_check_company ["named", "company"] []
  a_p_check_person : Addr
  d_p_check_person : FuncData
  F_p_check_person : Fun K "check_person" "check_person" s_p_check_person a_p_check_person d_p_check_person
  g_p_check_person : mg "check_person" = some (.ref a_p_check_person)
  b_p_check_person : Binds K d_p_check_person ["company", "person"] []
  a_p_check_other : Addr
  d_p_check_other : FuncData
  F_p_check_other : Fun K "check_other" "check_other" s_p_check_other a_p_check_other d_p_check_other
  g_p_check_other : mg "check_other" = some (.ref a_p_check_other)
  b_p_check_other : Binds K d_p_check_other ["company", "person", "other"] []
  a_p_check_besides : Addr
  d_p_check_besides : FuncData
  F_p_check_besides : Fun K "check_besides" "check_besides" s_p_check_besides a_p_check_besides d_p_check_besides
  g_p_check_besides : mg "check_besides" = some (.ref a_p_check_besides)
  b_p_check_besides : Binds K d_p_check_besides ["named", "company", "besides"] []
  a_p_pairs_of : Addr
  d_p_pairs_of : FuncData
  F_p_pairs_of : Fun K "pairs_of" "pairs_of" s_p_pairs_of a_p_pairs_of d_p_pairs_of
  g_p_pairs_of : mg "pairs_of" = some (.ref a_p_pairs_of)
  b_p_pairs_of : Binds K d_p_pairs_of ["people"] []
  a_p_pair_of : Addr
  d_p_pair_of : FuncData
  F_p_pair_of : Fun K "pair_of" "pair_of" s_p_pair_of a_p_pair_of d_p_pair_of
  g_p_pair_of : mg "pair_of" = some (.ref a_p_pair_of)
  b_p_pair_of : Binds K d_p_pair_of ["one", "other"] []
  a_p_part_for : Addr
  d_p_part_for : FuncData
  F_p_part_for : Fun K "part_for" "part_for" s_p_part_for a_p_part_for d_p_part_for
  g_p_part_for : mg "part_for" = some (.ref a_p_part_for)
  b_p_part_for : Binds K d_p_part_for ["named", "company", "besides"] []
  a_p_is_company : Addr
  d_p_is_company : FuncData
  F_p_is_company : Fun K "is_company" "is_company" s_p_is_company a_p_is_company d_p_is_company
  g_p_is_company : mg "is_company" = some (.ref a_p_is_company)
  b_p_is_company : Binds K d_p_is_company ["named", "value"] []
  a_p_do_know : Addr
  d_p_do_know : FuncData
  F_p_do_know : Fun K "do_know" "do_know" s_p_do_know a_p_do_know d_p_do_know
  g_p_do_know : mg "do_know" = some (.ref a_p_do_know)
  b_p_do_know : Binds K d_p_do_know ["named", "company", "person", "other"] []
  a_p_known_to : Addr
  d_p_known_to : FuncData
  F_p_known_to : Fun K "known_to" "known_to" s_p_known_to a_p_known_to d_p_known_to
  g_p_known_to : mg "known_to" = some (.ref a_p_known_to)
  b_p_known_to : Binds K d_p_known_to ["named", "company", "person"] []
  a_p_part_of : Addr
  d_p_part_of : FuncData
  F_p_part_of : Fun K "part_of" "part_of" s_p_part_of a_p_part_of d_p_part_of
  g_p_part_of : mg "part_of" = some (.ref a_p_part_of)
  b_p_part_of : Binds K d_p_part_of ["named", "company", "besides"] []
  a_Lcup : Addr
  d_Lcup : FuncData
  F_Lcup : Fun K "_law_cup" "_law_cup" s_Lcup a_Lcup d_Lcup
  g_Lcup : mg "_law_cup" = some (.ref a_Lcup)
  b_Lcup : Binds K d_Lcup ["_law_script"] []
  a_Lroll : Addr
  d_Lroll : FuncData
  F_Lroll : Fun K "_law_roll" "_law_roll" s_Lroll a_Lroll d_Lroll
  g_Lroll : mg "_law_roll" = some (.ref a_Lroll)
  b_Lroll : Binds K d_Lroll ["_law_cup_here", "_law_many"] []
  a_Lsome : Addr
  d_Lsome : FuncData
  F_Lsome : Fun K "_law_some" "_law_some" s_Lsome a_Lsome d_Lsome
  g_Lsome : mg "_law_some" = some (.ref a_Lsome)
  b_Lsome : Binds K d_Lsome ["_law_cup_here", "_law_things"] []
  a_Lare_whole : Addr
  d_Lare_whole : FuncData
  F_Lare_whole : Fun K "_law_are_whole" "_law_are_whole" s_Lare_whole a_Lare_whole d_Lare_whole
  g_Lare_whole : mg "_law_are_whole" = some (.ref a_Lare_whole)
  b_Lare_whole : Binds K d_Lare_whole ["_law_value", "_law_low", "_law_high"] []
  a_Ltwo : Addr
  d_Ltwo : FuncData
  F_Ltwo : Fun K "_law_two" "_law_two" s_Ltwo a_Ltwo d_Ltwo
  g_Ltwo : mg "_law_two" = some (.ref a_Ltwo)
  b_Ltwo : Binds K d_Ltwo ["_law_one", "_law_other"] []
  a_Lknows : Addr
  d_Lknows : FuncData
  F_Lknows : Fun K "_law_knows" "_law_knows" s_Lknows a_Lknows d_Lknows
  g_Lknows : mg "_law_knows" = some (.ref a_Lknows)
  b_Lknows : Binds K d_Lknows ["_law_company_here", "_law_one", "_law_other"] []
  a_Lsome_besides : Addr
  d_Lsome_besides : FuncData
  F_Lsome_besides : Fun K "_law_some_besides" "_law_some_besides" s_Lsome_besides a_Lsome_besides d_Lsome_besides
  g_Lsome_besides : mg "_law_some_besides" = some (.ref a_Lsome_besides)
  b_Lsome_besides : Binds K d_Lsome_besides ["_law_cup_here", "_law_named_here", "_law_company_here"] []
  a_Lpairs : Addr
  d_Lpairs : FuncData
  F_Lpairs : Fun K "_law_pairs" "_law_pairs" s_Lpairs a_Lpairs d_Lpairs
  g_Lpairs : mg "_law_pairs" = some (.ref a_Lpairs)
  b_Lpairs : Binds K d_Lpairs ["_law_people"] []
  a_Lpart : Addr
  d_Lpart : FuncData
  F_Lpart : Fun K "_law_part" "_law_part" s_Lpart a_Lpart d_Lpart
  g_Lpart : mg "_law_part" = some (.ref a_Lpart)
  b_Lpart : Binds K d_Lpart ["_law_named_here", "_law_company_here", "_law_besides"] []
  a_Lnamed : Addr
  d_Lnamed : FuncData
  F_Lnamed : Fun K "_law_named" "_law_named" s_Lnamed a_Lnamed d_Lnamed
  g_Lnamed : mg "_law_named" = some (.ref a_Lnamed)
  b_Lnamed : Binds K d_Lnamed ["_law_cup_here"] []
  a_Lcompany : Addr
  d_Lcompany : FuncData
  F_Lcompany : Fun K "_law_company" "_law_company" s_Lcompany a_Lcompany d_Lcompany
  g_Lcompany : mg "_law_company" = some (.ref a_Lcompany)
  b_Lcompany : Binds K d_Lcompany ["_law_cup_here", "_law_named_here", "_law_least", "_law_most"] []
  a_Ljudged : Addr
  d_Ljudged : FuncData
  F_Ljudged : Fun K "_law_judged" "_law_judged" s_Ljudged a_Ljudged d_Ljudged
  g_Ljudged : mg "_law_judged" = some (.ref a_Ljudged)
  b_Ljudged : Binds K d_Ljudged ["_law_named_here", "_law_value"] []
  a_Lbent : Addr
  d_Lbent : FuncData
  F_Lbent : Fun K "_law_bent" "_law_bent" s_Lbent a_Lbent d_Lbent
  g_Lbent : mg "_law_bent" = some (.ref a_Lbent)
  b_Lbent : Binds K d_Lbent ["_law_cup_here", "_law_company_here"] []
  a_Lright : Addr
  d_Lright : FuncData
  F_Lright : Fun K "_law_right" "_law_right" s_Lright a_Lright d_Lright
  g_Lright : mg "_law_right" = some (.ref a_Lright)
  b_Lright : Binds K d_Lright ["_law_cup_here", "_law_named_here", "_law_company_here"] []
  a_Law : Addr
  d_Law : FuncData
  F_Law : Fun K "law" "law" s_Law a_Law d_Law
  g_Law : mg "law" = some (.ref a_Law)
  b_Law : Binds K d_Law ["_law_script"] []
  z_abs : mg "abs" = none
  z_all : mg "all" = none
  z_bool : mg "bool" = none
  z_int : mg "int" = none
  z_isinstance : mg "isinstance" = none
  z_len : mg "len" = none
  z_list : mg "list" = none
  z_range : mg "range" = none
  z_set : mg "set" = none
  z_sorted : mg "sorted" = none
  z_tuple : mg "tuple" = none
  t_MOST_NAMED : Tok
  c_MOST_NAMED : mg "MOST_NAMED" = some (.int 3 t_MOST_NAMED)
  t_MOST_PEOPLE : Tok
  c_MOST_PEOPLE : mg "MOST_PEOPLE" = some (.int 9 t_MOST_PEOPLE)
  kc_p_known_to : Addr
  kt_p_known_to : Addr
  h_p_known_to : ∃ (oc : Value) (od : Option Addr) (kV doc pm : Value) (an : Option Addr) (ct : Value) (osl : Array (Option Value)), d_p_known_to = PySem.W.fnOf "known_to" "known_to" (defArgs s_p_known_to) (defBody s_p_known_to) (defScope s_p_known_to) .none kV doc pm an (.ref kc_p_known_to) ct ∧ K.lookup a_p_known_to = some ⟨oc, od, .func d_p_known_to, osl⟩ ∧ PySem.W.codeIn K (.ref kc_p_known_to) "known_to" = true
section
variable {P : Program} {w : World} {K : PySem.W.Frag} {mg : Str → Option Value} {base : Heap} {tb : List Addr}
/-- the tables of codes -/
structure Gx (tb : List Addr) (base : Heap) (T : Tx K mg) : Prop where
  tb_p_known_to : GxR.TabB base mg T.kc_p_known_to T.kt_p_known_to
  in_p_known_to : T.kt_p_known_to ∈ tb
/-- the defs that may be called, at a level -/
structure Cl (tb : List Addr) (P : Program) (w : World) (base : Heap) (T : Tx K mg) (k : Nat) (cl : Fid → FC) : Prop where
  p_is_integer : FnOk P w K mg base CX0 k T.a_p_is_integer T.d_p_is_integer ["value"] (spM tb K 1 (cl .p_is_integer))
  p_is_between : FnOk P w K mg base CX0 k T.a_p_is_between T.d_p_is_between ["value", "least", "most"] (spM tb K 3 (cl .p_is_between))
  p_is_tuple_of : FnOk P w K mg base CX0 k T.a_p_is_tuple_of T.d_p_is_tuple_of ["value", "many"] (spM tb K 2 (cl .p_is_tuple_of))
  p_is_ascending : FnOk P w K mg base CX0 k T.a_p_is_ascending T.d_p_is_ascending ["values"] (spM tb K 1 (cl .p_is_ascending))
  p_are_unlike_between : FnOk P w K mg base CX0 k T.a_p_are_unlike_between T.d_p_are_unlike_between ["value", "least", "most"] (spM tb K 3 (cl .p_are_unlike_between))
  p_is_pair_of : FnOk P w K mg base CX0 k T.a_p_is_pair_of T.d_p_is_pair_of ["people", "value"] (spM tb K 2 (cl .p_is_pair_of))
  p_are_ties_of : FnOk P w K mg base CX0 k T.a_p_are_ties_of T.d_p_are_ties_of ["people", "value"] (spM tb K 2 (cl .p_are_ties_of))
  p_is_company_of : FnOk P w K mg base CX0 k T.a_p_is_company_of T.d_p_is_company_of ["named", "value"] (spM tb K 2 (cl .p_is_company_of))
  p_check_named : FnOk P w K mg base CX0 k T.a_p_check_named T.d_p_check_named ["named"] (spM tb K 1 (cl .p_check_named))
  p_check_company : FnOk P w K mg base CX0 k T.a_p_check_company T.d_p_check_company ["named", "company"] (spM tb K 2 (cl .p_check_company))
  p_check_person : FnOk P w K mg base CX0 k T.a_p_check_person T.d_p_check_person ["company", "person"] (spM tb K 2 (cl .p_check_person))
  p_check_other : FnOk P w K mg base CX0 k T.a_p_check_other T.d_p_check_other ["company", "person", "other"] (spM tb K 3 (cl .p_check_other))
  p_check_besides : FnOk P w K mg base CX0 k T.a_p_check_besides T.d_p_check_besides ["named", "company", "besides"] (spM tb K 3 (cl .p_check_besides))
  p_pairs_of : FnOk P w K mg base CX0 k T.a_p_pairs_of T.d_p_pairs_of ["people"] (spM tb K 1 (cl .p_pairs_of))
  p_pair_of : FnOk P w K mg base CX0 k T.a_p_pair_of T.d_p_pair_of ["one", "other"] (spM tb K 2 (cl .p_pair_of))
  p_part_for : FnOk P w K mg base CX0 k T.a_p_part_for T.d_p_part_for ["named", "company", "besides"] (spM tb K 3 (cl .p_part_for))
  p_is_company : FnOk P w K mg base CX0 k T.a_p_is_company T.d_p_is_company ["named", "value"] (spM tb K 2 (cl .p_is_company))
  p_do_know : FnOk P w K mg base CX0 k T.a_p_do_know T.d_p_do_know ["named", "company", "person", "other"] (spM tb K 4 (cl .p_do_know))
  p_known_to : FnOk P w K mg base CX0 k T.a_p_known_to T.d_p_known_to ["named", "company", "person"] (spM tb K 3 (cl .p_known_to))
  p_part_of : FnOk P w K mg base CX0 k T.a_p_part_of T.d_p_part_of ["named", "company", "besides"] (spM tb K 3 (cl .p_part_of))
  Lroll : FnOk P w K mg base CX0 k T.a_Lroll T.d_Lroll ["_law_cup_here", "_law_many"] (spM tb K 2 (cl .Lroll))
  Lsome : FnOk P w K mg base CX0 k T.a_Lsome T.d_Lsome ["_law_cup_here", "_law_things"] (spM tb K 2 (cl .Lsome))
  Lare_whole : FnOk P w K mg base CX0 k T.a_Lare_whole T.d_Lare_whole ["_law_value", "_law_low", "_law_high"] (spM tb K 3 (cl .Lare_whole))
  Ltwo : FnOk P w K mg base CX0 k T.a_Ltwo T.d_Ltwo ["_law_one", "_law_other"] (spM tb K 2 (cl .Ltwo))
  Lknows : FnOk P w K mg base CX0 k T.a_Lknows T.d_Lknows ["_law_company_here", "_law_one", "_law_other"] (spM tb K 3 (cl .Lknows))
  Lsome_besides : FnOk P w K mg base CX0 k T.a_Lsome_besides T.d_Lsome_besides ["_law_cup_here", "_law_named_here", "_law_company_here"] (spM tb K 3 (cl .Lsome_besides))
  Lpairs : FnOk P w K mg base CX0 k T.a_Lpairs T.d_Lpairs ["_law_people"] (spM tb K 1 (cl .Lpairs))
  Lpart : FnOk P w K mg base CX0 k T.a_Lpart T.d_Lpart ["_law_named_here", "_law_company_here", "_law_besides"] (spM tb K 3 (cl .Lpart))
  Lnamed : FnOk P w K mg base CX0 k T.a_Lnamed T.d_Lnamed ["_law_cup_here"] (spM tb K 1 (cl .Lnamed))
  Lcompany : FnOk P w K mg base CX0 k T.a_Lcompany T.d_Lcompany ["_law_cup_here", "_law_named_here", "_law_least", "_law_most"] (spM tb K 4 (cl .Lcompany))
  Ljudged : FnOk P w K mg base CX0 k T.a_Ljudged T.d_Ljudged ["_law_named_here", "_law_value"] (spM tb K 2 (cl .Ljudged))
  Lbent : FnOk P w K mg base CX0 k T.a_Lbent T.d_Lbent ["_law_cup_here", "_law_company_here"] (spM tb K 2 (cl .Lbent))
  Lright : FnOk P w K mg base CX0 k T.a_Lright T.d_Lright ["_law_cup_here", "_law_named_here", "_law_company_here"] (spM tb K 3 (cl .Lright))
theorem ok_p_is_integer (T : Tx K mg) (G : Gx tb base T) {k : Nat} {cl : Fid → FC} (C : Cl tb P w base T k cl) : FnOk P w K mg base CX0 (k + 1) T.a_p_is_integer T.d_p_is_integer ["value"] (spM tb K 1 (mFun 1 (B_p_is_integer cl))) :=
  have nd := sc_p_is_integer.nd
  m_fn T.F_p_is_integer sc_p_is_integer fun cdv A outer s H E hr => (mss_one (ms_ret (me_and (me_isi ty_int (by rfl) T.z_isinstance (by decide +kernel) (by rfl) T.z_int (by decide +kernel) (me_var (i := 0))) (me_one (me_not (me_isi ty_bool (by rfl) T.z_isinstance (by decide +kernel) (by rfl) T.z_bool (by decide +kernel) (me_var (i := 0))))))))
theorem ok_p_is_between (T : Tx K mg) (G : Gx tb base T) {k : Nat} {cl : Fid → FC} (C : Cl tb P w base T k cl) : FnOk P w K mg base CX0 (k + 1) T.a_p_is_between T.d_p_is_between ["value", "least", "most"] (spM tb K 3 (mFun 3 (B_p_is_between cl))) :=
  have nd := sc_p_is_between.nd
  m_fn T.F_p_is_between sc_p_is_between fun cdv A outer s H E hr => (mss_one (ms_ret (me_and (me_call C.p_is_integer hr (by rfl) T.g_p_is_integer T.F_p_is_integer.kp T.b_p_is_integer pass0 (ma_cons (me_var (i := 0)) ma_nil) (ll_cons ll_nil)) (me_one (me_chain op_le op_le s_le s_le (me_var (i := 1)) (me_var (i := 0)) (me_var (i := 2)) (by with_unfolding_all rfl))))))
theorem ok_p_is_tuple_of (T : Tx K mg) (G : Gx tb base T) {k : Nat} {cl : Fid → FC} (C : Cl tb P w base T k cl) : FnOk P w K mg base CX0 (k + 1) T.a_p_is_tuple_of T.d_p_is_tuple_of ["value", "many"] (spM tb K 2 (mFun 2 (B_p_is_tuple_of cl))) :=
  have nd := sc_p_is_tuple_of.nd
  m_fn T.F_p_is_tuple_of sc_p_is_tuple_of fun cdv A outer s H E hr => (mss_one (ms_ret (me_and (me_isi ty_tuple (by rfl) T.z_isinstance (by decide +kernel) (by rfl) T.z_tuple (by decide +kernel) (me_var (i := 0))) (me_one (me_cmp (op_eqA hr.units) s_eq (me_fn call_len_seq s_len (by rfl) T.z_len (by decide +kernel) (ma_cons (me_var (i := 0)) ma_nil)) (me_var (i := 1)) (nomark _))))))
theorem ok_p_is_ascending (T : Tx K mg) (G : Gx tb base T) {k : Nat} {cl : Fid → FC} (C : Cl tb P w base T k cl) : FnOk P w K mg base CX0 (k + 1) T.a_p_is_ascending T.d_p_is_ascending ["values"] (spM tb K 1 (mFun 2 (B_p_is_ascending cl))) :=
  have nd := sc_p_is_ascending.nd
  m_fn T.F_p_is_ascending sc_p_is_ascending fun cdv A outer s H E hr => (mss_one (ms_ret (me_fn (cr_all rfl) s_all (by rfl) T.z_all (by decide +kernel) (ma_cons (me_lc (own := [("index", 1)]) (fun _ _ _ h => mt_lcR1 h) rfl nd (pi_range1 (by rfl) T.z_range (ma_cons (me_op op_sub s_sub (me_fn call_len_seq s_len (by rfl) T.z_len (by decide +kernel) (ma_cons (me_var (i := 0)) ma_nil)) me_int) ma_nil)) (blkOk_by (N := n_p_is_ascending) (sc := defScope s_p_is_ascending) (by decide +kernel)) (fun _ _ _ _ _ => mw_name (i := 1) (by decide) nd rfl (Or.inl rfl)) (fun _ _ _ _ _ => mts_nil) (fun _ _ _ _ _ => (me_cmp (op_ltX (units0 hr)) s_ltX (me_ix ix_A s_ix (me_var (i := 0)) (me_var (i := 1)) (fun _ _ => rfl)) (me_ix ix_A s_ix (me_var (i := 0)) (me_op op_addA s_add (me_var (i := 1)) me_int) (fun _ _ => rfl)) (nomark _)))) ma_nil))))
theorem ok_p_are_unlike_between (T : Tx K mg) (G : Gx tb base T) {k : Nat} {cl : Fid → FC} (C : Cl tb P w base T k cl) : FnOk P w K mg base CX0 (k + 1) T.a_p_are_unlike_between T.d_p_are_unlike_between ["value", "least", "most"] (spM tb K 3 (mFun 4 (B_p_are_unlike_between cl))) :=
  have nd := sc_p_are_unlike_between.nd
  m_fn T.F_p_are_unlike_between sc_p_are_unlike_between fun cdv A outer s H E hr => (mss_cons (ms_if (mp_not (mp_val (me_isi ty_tuple (by rfl) T.z_isinstance (by decide +kernel) (by rfl) T.z_tuple (by decide +kernel) (me_var (i := 0))))) (mss_one (ms_ret me_bl)) mss_nil)
    (mss_cons (ms_if (mp_not (mp_val (me_fn (cr_all rfl) s_all (by rfl) T.z_all (by decide +kernel) (ma_cons (me_lc (own := [("part", 3)]) (fun _ _ _ h => mt_lcT h) rfl nd (pi_tup (me_var (i := 0))) (blkOk_by (N := n_p_are_unlike_between) (sc := defScope s_p_are_unlike_between) (by decide +kernel)) (fun _ _ _ _ _ => mw_name (i := 3) (by decide) nd rfl (Or.inl rfl)) (fun _ _ _ _ _ => mts_nil) (fun _ _ _ _ _ => (me_call C.p_is_between hr (by rfl) T.g_p_is_between T.F_p_is_between.kp T.b_p_is_between pass0 (ma_cons (me_var (i := 3)) (ma_cons (me_var (i := 1)) (ma_cons (me_var (i := 2)) ma_nil))) (ll_cons (ll_cons (ll_cons ll_nil)))))) ma_nil)))) (mss_one (ms_ret me_bl)) mss_nil)
    (mss_one (ms_ret (me_cmp (op_eqA hr.units) s_eq (me_lenSet rfl (by rfl) T.z_len (by rfl) T.z_set (me_var (i := 0))) (me_fn call_len_seq s_len (by rfl) T.z_len (by decide +kernel) (ma_cons (me_var (i := 0)) ma_nil)) (nomark _))))))
theorem ok_p_is_pair_of (T : Tx K mg) (G : Gx tb base T) {k : Nat} {cl : Fid → FC} (C : Cl tb P w base T k cl) : FnOk P w K mg base CX0 (k + 1) T.a_p_is_pair_of T.d_p_is_pair_of ["people", "value"] (spM tb K 2 (mFun 4 (B_p_is_pair_of cl))) :=
  have nd := sc_p_is_pair_of.nd
  m_fn T.F_p_is_pair_of sc_p_is_pair_of fun cdv A outer s H E hr => (mss_cons (ms_if (mp_not (mp_val (me_call C.p_is_tuple_of hr (by rfl) T.g_p_is_tuple_of T.F_p_is_tuple_of.kp T.b_p_is_tuple_of pass0 (ma_cons (me_var (i := 1)) (ma_cons me_int ma_nil)) (ll_cons (ll_cons ll_nil))))) (mss_one (ms_ret me_bl)) mss_nil)
    (mss_cons (ms_asg (me_var (i := 1)) (mg_tup rfl (mgs_cons (mg_name (i := 2) nd rfl (Or.inl rfl)) (mgs_cons (mg_name (i := 3) nd rfl (Or.inl rfl)) mgs_nil))))
    (mss_one (ms_ret (me_and (me_call C.p_is_between hr (by rfl) T.g_p_is_between T.F_p_is_between.kp T.b_p_is_between pass0 (ma_cons (me_var (i := 2)) (ma_cons me_int (ma_cons (me_op op_sub s_sub (me_var (i := 0)) me_int) ma_nil))) (ll_cons (ll_cons (ll_cons ll_nil)))) (me_one (me_call C.p_is_between hr (by rfl) T.g_p_is_between T.F_p_is_between.kp T.b_p_is_between pass0 (ma_cons (me_var (i := 3)) (ma_cons (me_op op_addA s_add (me_var (i := 2)) me_int) (ma_cons (me_op op_sub s_sub (me_var (i := 0)) me_int) ma_nil))) (ll_cons (ll_cons (ll_cons ll_nil))))))))))
theorem ok_p_are_ties_of (T : Tx K mg) (G : Gx tb base T) {k : Nat} {cl : Fid → FC} (C : Cl tb P w base T k cl) : FnOk P w K mg base CX0 (k + 1) T.a_p_are_ties_of T.d_p_are_ties_of ["people", "value"] (spM tb K 2 (mFun 3 (B_p_are_ties_of cl))) :=
  have nd := sc_p_are_ties_of.nd
  m_fn T.F_p_are_ties_of sc_p_are_ties_of fun cdv A outer s H E hr => (mss_cons (ms_if (mp_not (mp_val (me_isi ty_tuple (by rfl) T.z_isinstance (by decide +kernel) (by rfl) T.z_tuple (by decide +kernel) (me_var (i := 1))))) (mss_one (ms_ret me_bl)) mss_nil)
    (mss_one (ms_ret (me_and (me_fn (cr_all rfl) s_all (by rfl) T.z_all (by decide +kernel) (ma_cons (me_lc (own := [("tie", 2)]) (fun _ _ _ h => mt_lcT h) rfl nd (pi_tup (me_var (i := 1))) (blkOk_by (N := n_p_are_ties_of) (sc := defScope s_p_are_ties_of) (by decide +kernel)) (fun _ _ _ _ _ => mw_name (i := 2) (by decide) nd rfl (Or.inl rfl)) (fun _ _ _ _ _ => mts_nil) (fun _ _ _ _ _ => (me_call C.p_is_pair_of hr (by rfl) T.g_p_is_pair_of T.F_p_is_pair_of.kp T.b_p_is_pair_of pass0 (ma_cons (me_var (i := 0)) (ma_cons (me_var (i := 2)) ma_nil)) (ll_cons (ll_cons ll_nil))))) ma_nil)) (me_one (me_call C.p_is_ascending hr (by rfl) T.g_p_is_ascending T.F_p_is_ascending.kp T.b_p_is_ascending pass0 (ma_cons (me_var (i := 1)) ma_nil) (ll_cons ll_nil)))))))
theorem ok_p_is_company_of (T : Tx K mg) (G : Gx tb base T) {k : Nat} {cl : Fid → FC} (C : Cl tb P w base T k cl) : FnOk P w K mg base CX0 (k + 1) T.a_p_is_company_of T.d_p_is_company_of ["named", "value"] (spM tb K 2 (mFun 4 (B_p_is_company_of cl))) :=
  have nd := sc_p_is_company_of.nd
  m_fn T.F_p_is_company_of sc_p_is_company_of fun cdv A outer s H E hr => (mss_cons (ms_if (mp_not (mp_val (me_call C.p_is_tuple_of hr (by rfl) T.g_p_is_tuple_of T.F_p_is_tuple_of.kp T.b_p_is_tuple_of pass0 (ma_cons (me_var (i := 1)) (ma_cons me_int ma_nil)) (ll_cons (ll_cons ll_nil))))) (mss_one (ms_ret me_bl)) mss_nil)
    (mss_cons (ms_asg (me_var (i := 1)) (mg_tup rfl (mgs_cons (mg_name (i := 2) nd rfl (Or.inl rfl)) (mgs_cons (mg_name (i := 3) nd rfl (Or.inl rfl)) mgs_nil))))
    (mss_one (ms_ret (me_and (me_call C.p_is_between hr (by rfl) T.g_p_is_between T.F_p_is_between.kp T.b_p_is_between pass0 (ma_cons (me_var (i := 2)) (ma_cons (me_var (i := 0)) (ma_cons (me_globI (by rfl) T.c_MOST_PEOPLE) ma_nil))) (ll_cons (ll_cons (ll_cons ll_nil)))) (me_one (me_call C.p_are_ties_of hr (by rfl) T.g_p_are_ties_of T.F_p_are_ties_of.kp T.b_p_are_ties_of pass0 (ma_cons (me_var (i := 2)) (ma_cons (me_var (i := 3)) ma_nil)) (ll_cons (ll_cons ll_nil)))))))))
theorem ok_p_check_named (T : Tx K mg) (G : Gx tb base T) {k : Nat} {cl : Fid → FC} (C : Cl tb P w base T k cl) : FnOk P w K mg base CX0 (k + 1) T.a_p_check_named T.d_p_check_named ["named"] (spM tb K 1 (mFun 1 (B_p_check_named cl))) :=
  have nd := sc_p_check_named.nd
  m_fn T.F_p_check_named sc_p_check_named fun cdv A outer s H E hr => (mss_one (ms_if (mp_not (mp_val (me_call C.p_is_between hr (by rfl) T.g_p_is_between T.F_p_is_between.kp T.b_p_is_between pass0 (ma_cons (me_var (i := 0)) (ma_cons me_int (ma_cons (me_globI (by rfl) T.c_MOST_NAMED) ma_nil))) (ll_cons (ll_cons (ll_cons ll_nil)))))) (mss_one ms_never) mss_nil))
theorem ok_p_check_company (T : Tx K mg) (G : Gx tb base T) {k : Nat} {cl : Fid → FC} (C : Cl tb P w base T k cl) : FnOk P w K mg base CX0 (k + 1) T.a_p_check_company T.d_p_check_company ["named", "company"] (spM tb K 2 (mFun 2 (B_p_check_company cl))) :=
  have nd := sc_p_check_company.nd
  m_fn T.F_p_check_company sc_p_check_company fun cdv A outer s H E hr => (mss_cons (ms_expr (me_call C.p_check_named hr (by rfl) T.g_p_check_named T.F_p_check_named.kp T.b_p_check_named pass0 (ma_cons (me_var (i := 0)) ma_nil) (ll_cons ll_nil)))
    (mss_one (ms_if (mp_not (mp_val (me_call C.p_is_company_of hr (by rfl) T.g_p_is_company_of T.F_p_is_company_of.kp T.b_p_is_company_of pass0 (ma_cons (me_var (i := 0)) (ma_cons (me_var (i := 1)) ma_nil)) (ll_cons (ll_cons ll_nil))))) (mss_one ms_never) mss_nil)))
theorem ok_p_check_person (T : Tx K mg) (G : Gx tb base T) {k : Nat} {cl : Fid → FC} (C : Cl tb P w base T k cl) : FnOk P w K mg base CX0 (k + 1) T.a_p_check_person T.d_p_check_person ["company", "person"] (spM tb K 2 (mFun 2 (B_p_check_person cl))) :=
  have nd := sc_p_check_person.nd
  m_fn T.F_p_check_person sc_p_check_person fun cdv A outer s H E hr => (mss_one (ms_if (mp_not (mp_val (me_call C.p_is_between hr (by rfl) T.g_p_is_between T.F_p_is_between.kp T.b_p_is_between pass0 (ma_cons (me_var (i := 1)) (ma_cons me_int (ma_cons (me_op op_sub s_sub (me_ix ix_A s_ix (me_var (i := 0)) me_int (fun _ _ => rfl)) me_int) ma_nil))) (ll_cons (ll_cons (ll_cons ll_nil)))))) (mss_one ms_never) mss_nil))
theorem ok_p_check_other (T : Tx K mg) (G : Gx tb base T) {k : Nat} {cl : Fid → FC} (C : Cl tb P w base T k cl) : FnOk P w K mg base CX0 (k + 1) T.a_p_check_other T.d_p_check_other ["company", "person", "other"] (spM tb K 3 (mFun 3 (B_p_check_other cl))) :=
  have nd := sc_p_check_other.nd
  m_fn T.F_p_check_other sc_p_check_other fun cdv A outer s H E hr => (mss_cons (ms_expr (me_call C.p_check_person hr (by rfl) T.g_p_check_person T.F_p_check_person.kp T.b_p_check_person pass0 (ma_cons (me_var (i := 0)) (ma_cons (me_var (i := 2)) ma_nil)) (ll_cons (ll_cons ll_nil))))
    (mss_one (ms_if (mp_cmp (op_eqA hr.units) s_eq (me_var (i := 1)) (me_var (i := 2)) (nomark _)) (mss_one ms_never) mss_nil)))
theorem ok_p_check_besides (T : Tx K mg) (G : Gx tb base T) {k : Nat} {cl : Fid → FC} (C : Cl tb P w base T k cl) : FnOk P w K mg base CX0 (k + 1) T.a_p_check_besides T.d_p_check_besides ["named", "company", "besides"] (spM tb K 3 (mFun 3 (B_p_check_besides cl))) :=
  have nd := sc_p_check_besides.nd
  m_fn T.F_p_check_besides sc_p_check_besides fun cdv A outer s H E hr => (mss_one (ms_if (mp_not (mp_val (me_call C.p_are_unlike_between hr (by rfl) T.g_p_are_unlike_between T.F_p_are_unlike_between.kp T.b_p_are_unlike_between pass0 (ma_cons (me_var (i := 2)) (ma_cons (me_var (i := 0)) (ma_cons (me_op op_sub s_sub (me_ix ix_A s_ix (me_var (i := 1)) me_int (fun _ _ => rfl)) me_int) ma_nil))) (ll_cons (ll_cons (ll_cons ll_nil)))))) (mss_one ms_never) mss_nil))
theorem ok_p_pairs_of (T : Tx K mg) (G : Gx tb base T) {k : Nat} {cl : Fid → FC} (C : Cl tb P w base T k cl) : FnOk P w K mg base CX0 (k + 1) T.a_p_pairs_of T.d_p_pairs_of ["people"] (spM tb K 1 (mFun 3 (B_p_pairs_of cl))) :=
  have nd := sc_p_pairs_of.nd
  m_fn T.F_p_pairs_of sc_p_pairs_of fun cdv A outer s H E hr => (mss_one (ms_ret ((pe_lc2 (own := [("one", 1), ("other", 2)]) (vs1 := [2]) rfl nd (pi_range1 (by rfl) T.z_range (ma_cons (me_var (i := 0)) ma_nil)) (blkOk_by (N := n_p_pairs_of) (sc := defScope s_p_pairs_of) (by decide +kernel)) (by decide) (fun _ _ _ _ _ => mw_name (i := 1) (by decide) nd rfl (Or.inl rfl)) (fun _ _ _ _ _ => mts_nil) (fun _ _ _ _ _ => (pi_range2 (by rfl) T.z_range (ma_cons (me_op op_addA s_add (me_var (i := 1)) me_int) (ma_cons (me_var (i := 0)) ma_nil)))) (fun _ _ _ _ _ => mw_name (i := 2) (by decide) nd rfl (Or.inl rfl)) (fun _ _ _ _ _ => mts_nil) (fun _ _ _ _ _ => (me_tup (ma_cons (me_var (i := 1)) (ma_cons (me_var (i := 2)) ma_nil)) (fun r M ds M' h => Nat.le_trans ((ln_cons (ln_cons ln_nil)) r M ds M' h) (by decide))))).weak fun _ _ _ h => mt_lc2 it_R1 it_R2 h)))
theorem ok_p_pair_of (T : Tx K mg) (G : Gx tb base T) {k : Nat} {cl : Fid → FC} (C : Cl tb P w base T k cl) : FnOk P w K mg base CX0 (k + 1) T.a_p_pair_of T.d_p_pair_of ["one", "other"] (spM tb K 2 (mFun 2 (B_p_pair_of cl))) :=
  have nd := sc_p_pair_of.nd
  m_fn T.F_p_pair_of sc_p_pair_of fun cdv A outer s H E hr => (mss_one (ms_ret (me_if (mp_cmp (op_ltX (units0 hr)) s_ltX (me_var (i := 0)) (me_var (i := 1)) (nomark _)) (me_tup (ma_cons (me_var (i := 0)) (ma_cons (me_var (i := 1)) ma_nil)) (fun r M ds M' h => Nat.le_trans ((ln_cons (ln_cons ln_nil)) r M ds M' h) (by decide))) (me_tup (ma_cons (me_var (i := 1)) (ma_cons (me_var (i := 0)) ma_nil)) (fun r M ds M' h => Nat.le_trans ((ln_cons (ln_cons ln_nil)) r M ds M' h) (by decide))))))
theorem ok_p_part_for (T : Tx K mg) (G : Gx tb base T) {k : Nat} {cl : Fid → FC} (C : Cl tb P w base T k cl) : FnOk P w K mg base CX0 (k + 1) T.a_p_part_for T.d_p_part_for ["named", "company", "besides"] (spM tb K 3 (mFun 9 (B_p_part_for cl))) :=
  have nd := sc_p_part_for.nd
  m_fn T.F_p_part_for sc_p_part_for fun cdv A outer s H E hr => (mss_cons (ms_asg (me_op op_addA s_add (me_tupR rfl (by rfl) T.z_tuple end_1 (prg_1 (by rfl) T.z_range (me_var (i := 0)))) (me_var (i := 2))) (mg_name (i := 3) nd rfl (Or.inr rfl)))
    (mss_cons (ms_asg ((HX.pe_dx (own := [("tie", 6)]) .t rfl (hu_of hr) nd (pi_tup (me_ix ix_A s_ix (me_var (i := 1)) me_int (fun _ _ => rfl))) (blkOk_by (N := n_p_part_for) (sc := defScope s_p_part_for) (by decide +kernel)) ⟨fun _ _ _ _ _ => mw_name (i := 6) (by decide) nd rfl (Or.inl rfl), fun _ _ _ _ _ => mts_nil, fun _ _ _ _ _ => (me_var (i := 6)), fun _ _ _ _ _ => me_bl⟩).weak fun _ _ _ h => mt_dcT .t h) (mg_name (i := 4) nd rfl (Or.inr rfl)))
    (mss_cons (ms_setLc (i := 5) (own := [("one", 7), ("other", 8)]) (fun _ _ _ h => mt_lcL h) rfl nd rfl rfl (sw_true rfl rfl rfl (by decide +kernel)) (pi_list (me_call C.p_pairs_of hr (by rfl) T.g_p_pairs_of T.F_p_pairs_of.kp T.b_p_pairs_of pass0 (ma_cons (me_fn call_len_seq s_len (by rfl) T.z_len (by decide +kernel) (ma_cons (me_var (i := 3)) ma_nil)) ma_nil) (ll_cons ll_nil))) (blkOk_by (N := n_p_part_for) (sc := defScope s_p_part_for) (by decide +kernel)) (fun _ _ _ _ _ => mw_tup rfl (mws_cons (mw_name (i := 7) (by decide) nd rfl (Or.inl rfl)) (mws_cons (mw_name (i := 8) (by decide) nd rfl (Or.inl rfl)) mws_nil))) (fun _ _ _ _ _ => (mts_one (mp_cmp (op_inX (room65 hr)) s_inX (me_call C.p_pair_of hr (by rfl) T.g_p_pair_of T.F_p_pair_of.kp T.b_p_pair_of pass0 (ma_cons (me_ix ix_A s_ix (me_var (i := 3)) (me_var (i := 7)) (fun _ _ => rfl)) (ma_cons (me_ix ix_A s_ix (me_var (i := 3)) (me_var (i := 8)) (fun _ _ => rfl)) ma_nil)) (ll_cons (ll_cons ll_nil))) (me_var (i := 4)) (by rfl)))) (fun _ _ _ _ _ => (me_tup (ma_cons (me_var (i := 7)) (ma_cons (me_var (i := 8)) ma_nil)) (fun r M ds M' h => Nat.le_trans ((ln_cons (ln_cons ln_nil)) r M ds M' h) (by decide)))))
    (mss_one (ms_ret (me_tup (ma_cons (me_fn call_len_seq s_len (by rfl) T.z_len (by decide +kernel) (ma_cons (me_var (i := 3)) ma_nil)) (ma_cons (me_ty call_tuple_of s_tuple (by rfl) T.z_tuple (by decide +kernel) (ma_cons (me_var (i := 5)) ma_nil)) ma_nil)) (fun r M ds M' h => Nat.le_trans ((ln_cons (ln_cons ln_nil)) r M ds M' h) (by decide))))))))
theorem ok_p_is_company (T : Tx K mg) (G : Gx tb base T) {k : Nat} {cl : Fid → FC} (C : Cl tb P w base T k cl) : FnOk P w K mg base CX0 (k + 1) T.a_p_is_company T.d_p_is_company ["named", "value"] (spM tb K 2 (mFun 2 (B_p_is_company cl))) :=
  have nd := sc_p_is_company.nd
  m_fn T.F_p_is_company sc_p_is_company fun cdv A outer s H E hr => (mss_cons (ms_expr (me_call C.p_check_named hr (by rfl) T.g_p_check_named T.F_p_check_named.kp T.b_p_check_named pass0 (ma_cons (me_var (i := 0)) ma_nil) (ll_cons ll_nil)))
    (mss_one (ms_ret (me_call C.p_is_company_of hr (by rfl) T.g_p_is_company_of T.F_p_is_company_of.kp T.b_p_is_company_of pass0 (ma_cons (me_var (i := 0)) (ma_cons (me_var (i := 1)) ma_nil)) (ll_cons (ll_cons ll_nil))))))
theorem ok_p_do_know (T : Tx K mg) (G : Gx tb base T) {k : Nat} {cl : Fid → FC} (C : Cl tb P w base T k cl) : FnOk P w K mg base CX0 (k + 1) T.a_p_do_know T.d_p_do_know ["named", "company", "person", "other"] (spM tb K 4 (mFun 4 (B_p_do_know cl))) :=
  have nd := sc_p_do_know.nd
  m_fn T.F_p_do_know sc_p_do_know fun cdv A outer s H E hr => (mss_cons (ms_expr (me_call C.p_check_company hr (by rfl) T.g_p_check_company T.F_p_check_company.kp T.b_p_check_company pass0 (ma_cons (me_var (i := 0)) (ma_cons (me_var (i := 1)) ma_nil)) (ll_cons (ll_cons ll_nil))))
    (mss_cons (ms_expr (me_call C.p_check_person hr (by rfl) T.g_p_check_person T.F_p_check_person.kp T.b_p_check_person pass0 (ma_cons (me_var (i := 1)) (ma_cons (me_var (i := 2)) ma_nil)) (ll_cons (ll_cons ll_nil))))
    (mss_cons (ms_expr (me_call C.p_check_other hr (by rfl) T.g_p_check_other T.F_p_check_other.kp T.b_p_check_other pass0 (ma_cons (me_var (i := 1)) (ma_cons (me_var (i := 2)) (ma_cons (me_var (i := 3)) ma_nil))) (ll_cons (ll_cons (ll_cons ll_nil)))))
    (mss_one (ms_ret (me_cmp (op_inX (room65 hr)) s_inX (me_call C.p_pair_of hr (by rfl) T.g_p_pair_of T.F_p_pair_of.kp T.b_p_pair_of pass0 (ma_cons (me_var (i := 2)) (ma_cons (me_var (i := 3)) ma_nil)) (ll_cons (ll_cons ll_nil))) (me_ix ix_A s_ix (me_var (i := 1)) me_int (fun _ _ => rfl)) (by rfl)))))))
theorem ok_p_known_to (T : Tx K mg) (G : Gx tb base T) {k : Nat} {cl : Fid → FC} (C : Cl tb P w base T k cl) : FnOk P w K mg base CX0 (k + 1) T.a_p_known_to T.d_p_known_to ["named", "company", "person"] (spM tb K 3 (mFun 3 (B_p_known_to cl))) :=
  have nd := sc_p_known_to.nd
  m_fnC T.h_p_known_to sc_p_known_to fun A outer s H E hr => (mss_cons (ms_expr (me_call C.p_check_company hr (by rfl) T.g_p_check_company T.F_p_check_company.kp T.b_p_check_company pass0 (ma_cons (me_var (i := 0)) (ma_cons (me_var (i := 1)) ma_nil)) (ll_cons (ll_cons ll_nil))))
    (mss_cons (ms_expr (me_call C.p_check_person hr (by rfl) T.g_p_check_person T.F_p_check_person.kp T.b_p_check_person pass0 (ma_cons (me_var (i := 1)) (ma_cons (me_var (i := 2)) ma_nil)) (ll_cons (ll_cons ll_nil))))
    (mss_one (ms_ret (me_known (i := 2) (j := 1) T.F_p_pair_of sc_p_pair_of T.b_p_pair_of rfl rfl rfl T.g_p_pair_of hr (by rfl) T.z_tuple (by rfl) T.z_range G.tb_p_known_to G.in_p_known_to rfl (genS_mk rfl rfl (by decide +kernel) rfl rfl (by decide +kernel)) rfl rfl rfl rfl rfl rfl rfl (by decide) (by decide) (by decide) (by decide) (by decide) (by decide) (by intro _; rfl))))))
theorem ok_p_part_of (T : Tx K mg) (G : Gx tb base T) {k : Nat} {cl : Fid → FC} (C : Cl tb P w base T k cl) : FnOk P w K mg base CX0 (k + 1) T.a_p_part_of T.d_p_part_of ["named", "company", "besides"] (spM tb K 3 (mFun 3 (B_p_part_of cl))) :=
  have nd := sc_p_part_of.nd
  m_fn T.F_p_part_of sc_p_part_of fun cdv A outer s H E hr => (mss_cons (ms_expr (me_call C.p_check_company hr (by rfl) T.g_p_check_company T.F_p_check_company.kp T.b_p_check_company pass0 (ma_cons (me_var (i := 0)) (ma_cons (me_var (i := 1)) ma_nil)) (ll_cons (ll_cons ll_nil))))
    (mss_cons (ms_expr (me_call C.p_check_besides hr (by rfl) T.g_p_check_besides T.F_p_check_besides.kp T.b_p_check_besides pass0 (ma_cons (me_var (i := 0)) (ma_cons (me_var (i := 1)) (ma_cons (me_var (i := 2)) ma_nil))) (ll_cons (ll_cons (ll_cons ll_nil)))))
    (mss_one (ms_ret (me_call C.p_part_for hr (by rfl) T.g_p_part_for T.F_p_part_for.kp T.b_p_part_for pass0 (ma_cons (me_var (i := 0)) (ma_cons (me_var (i := 1)) (ma_cons (me_var (i := 2)) ma_nil))) (ll_cons (ll_cons (ll_cons ll_nil))))))))
theorem ok_Lcup (T : Tx K mg) (G : Gx tb base T) (k : Nat) : FnOk P w K mg base CX0 (k + 1) T.a_Lcup T.d_Lcup ["_law_script"] (spF tb K 1 g_Lcup) :=
  have nd := sc_Lcup.nd
  m_fnF T.F_Lcup sc_Lcup rfl (fun r M ds M' h => Nat.le_trans ((ln_cons (ln_cons ln_nil)) r M ds M' h) (by decide)) fun cdv A outer s H E hr => ⟨(ms_asg (me_fn call_abs s_abs (by rfl) T.z_abs (by decide +kernel) (ma_cons (me_ix ix_A s_ix (me_op op_addA s_add (me_ty call_list_of s_list (by rfl) T.z_list (by decide +kernel) (ma_cons (me_var (i := 0)) ma_nil)) (me_lst (ma_cons me_int ma_nil) (fun r M ds M' h => Nat.le_trans ((ln_cons ln_nil) r M ds M' h) (by decide)))) me_int (fun _ _ => rfl)) ma_nil)) (mg_name (i := 1) nd rfl (Or.inl rfl))), (ma_cons (me_if (mp_cmp op_ge s_ge (me_var (i := 1)) (me_op op_pow s_pow me_int me_int) (nomark _)) (me_op op_fdiv s_div (me_var (i := 1)) me_int) me_int) (ma_cons (me_op op_addA s_add (me_op op_mod s_mod (me_ty call_int1 s_int (by rfl) T.z_int (by decide +kernel) (ma_cons (me_op op_addA s_add (me_op op_mulA s_mul (me_var (i := 1)) me_int) me_int) ma_nil)) me_int) me_int) ma_nil))⟩
theorem ok_Lroll (T : Tx K mg) (G : Gx tb base T) {k : Nat} {cl : Fid → FC} (C : Cl tb P w base T k cl) : FnOk P w K mg base CX0 (k + 1) T.a_Lroll T.d_Lroll ["_law_cup_here", "_law_many"] (spM tb K 2 (mFun 4 (B_Lroll cl))) :=
  have nd := sc_Lroll.nd
  m_fn T.F_Lroll sc_Lroll fun cdv A outer s H E hr => (mss_cons (ms_if (mp_cmp op_gt s_gt (me_ix ix_A s_ix (me_var (i := 0)) me_int (fun _ _ => rfl)) me_int (nomark _)) (mss_cons (ms_asg (me_op op_mod s_mod (me_ty call_int1 s_int (by rfl) T.z_int (by decide +kernel) (ma_cons (me_ix ix_A s_ix (me_var (i := 0)) me_int (fun _ _ => rfl)) ma_nil)) (me_var (i := 1))) (mg_name (i := 2) nd rfl (Or.inl rfl)))
    (mss_cons ((ps_asg (me_op op_fdiv s_div (me_ix ix_A s_ix (me_var (i := 0)) me_int (fun _ _ => rfl)) (me_var (i := 1))) (pg_sub (me_var (i := 0)) me_int set_list)).weak fun _ _ _ => mt_store)
    (mss_one (ms_ret (me_var (i := 2)))))) mss_nil)
    (mss_cons ((ps_asg (me_op op_mod s_mod (me_ty call_int1 s_int (by rfl) T.z_int (by decide +kernel) (ma_cons (me_op op_addA s_add (me_op op_mulA s_mul (me_ix ix_A s_ix (me_var (i := 0)) me_int (fun _ _ => rfl)) me_int) me_int) ma_nil)) me_int) (pg_sub (me_var (i := 0)) me_int set_list)).weak fun _ _ _ => mt_store)
    (mss_cons (ms_asg (me_op op_mod s_mod (me_ty call_int1 s_int (by rfl) T.z_int (by decide +kernel) (ma_cons (me_op op_mulA s_mul (me_ix ix_A s_ix (me_var (i := 0)) me_int (fun _ _ => rfl)) (me_op op_addA s_add (me_ix ix_A s_ix (me_var (i := 0)) me_int (fun _ _ => rfl)) me_int)) ma_nil)) me_int) (mg_name (i := 3) nd rfl (Or.inl rfl)))
    (mss_one (ms_ret (me_op op_mod s_mod (me_ty call_int1 s_int (by rfl) T.z_int (by decide +kernel) (ma_cons (me_op op_fdiv s_div (me_var (i := 3)) me_int) ma_nil)) (me_var (i := 1))))))))
theorem ok_Lsome (T : Tx K mg) (G : Gx tb base T) {k : Nat} {cl : Fid → FC} (C : Cl tb P w base T k cl) : FnOk P w K mg base CX0 (k + 1) T.a_Lsome T.d_Lsome ["_law_cup_here", "_law_things"] (spM tb K 2 (mFun 2 (B_Lsome cl))) :=
  have nd := sc_Lsome.nd
  m_fn T.F_Lsome sc_Lsome fun cdv A outer s H E hr => (mss_one (ms_ret (me_ix ix_A s_ix (me_var (i := 1)) (me_call C.Lroll hr (by rfl) T.g_Lroll T.F_Lroll.kp T.b_Lroll pass0 (ma_cons (me_var (i := 0)) (ma_cons (me_fn call_len_seq s_len (by rfl) T.z_len (by decide +kernel) (ma_cons (me_var (i := 1)) ma_nil)) ma_nil)) (ll_cons (ll_cons ll_nil))) (fun _ _ => rfl))))
theorem ok_Lare_whole (T : Tx K mg) (G : Gx tb base T) {k : Nat} {cl : Fid → FC} (C : Cl tb P w base T k cl) : FnOk P w K mg base CX0 (k + 1) T.a_Lare_whole T.d_Lare_whole ["_law_value", "_law_low", "_law_high"] (spM tb K 3 (mFun 4 (B_Lare_whole cl))) :=
  have nd := sc_Lare_whole.nd
  m_fn T.F_Lare_whole sc_Lare_whole fun cdv A outer s H E hr => (mss_cons (ms_if (mp_not (mp_val (me_isi ty_tuple (by rfl) T.z_isinstance (by decide +kernel) (by rfl) T.z_tuple (by decide +kernel) (me_var (i := 0))))) (mss_one (ms_ret me_bl)) mss_nil)
    (mss_one (ms_ret (me_cmp (op_eqA hr.units) s_eq (me_lc (own := [("_law_one", 3)]) (fun _ _ _ h => mt_lcT h) rfl nd (pi_tup (me_var (i := 0))) (blkOk_by (N := n_Lare_whole) (sc := defScope s_Lare_whole) (by decide +kernel)) (fun _ _ _ _ _ => mw_name (i := 3) (by decide) nd rfl (Or.inl rfl)) (fun _ _ _ _ _ => (mts_one (mw_or (mp_val (me_isi ty_bool (by rfl) T.z_isinstance (by decide +kernel) (by rfl) T.z_bool (by decide +kernel) (me_var (i := 3)))) (mw_or (mp_not (mp_val (me_isi ty_int (by rfl) T.z_isinstance (by decide +kernel) (by rfl) T.z_int (by decide +kernel) (me_var (i := 3))))) (mw_or1 (mp_not (mp_chain op_le op_le s_le s_le (me_var (i := 1)) (me_var (i := 3)) (me_var (i := 2)) (by with_unfolding_all rfl)))))).pt)) (fun _ _ _ _ _ => me_int)) (me_lst ma_nil (fun r M ds M' h => Nat.le_trans (ln_nil r M ds M' h) (by decide))) (nomark _)))))
theorem ok_Ltwo (T : Tx K mg) (G : Gx tb base T) {k : Nat} {cl : Fid → FC} (C : Cl tb P w base T k cl) : FnOk P w K mg base CX0 (k + 1) T.a_Ltwo T.d_Ltwo ["_law_one", "_law_other"] (spM tb K 2 (mFun 2 (B_Ltwo cl))) :=
  have nd := sc_Ltwo.nd
  m_fn T.F_Ltwo sc_Ltwo fun cdv A outer s H E hr => (mss_one (ms_ret (me_if (mp_cmp (op_ltX (units0 hr)) s_ltX (me_var (i := 0)) (me_var (i := 1)) (nomark _)) (me_tup (ma_cons (me_var (i := 0)) (ma_cons (me_var (i := 1)) ma_nil)) (fun r M ds M' h => Nat.le_trans ((ln_cons (ln_cons ln_nil)) r M ds M' h) (by decide))) (me_tup (ma_cons (me_var (i := 1)) (ma_cons (me_var (i := 0)) ma_nil)) (fun r M ds M' h => Nat.le_trans ((ln_cons (ln_cons ln_nil)) r M ds M' h) (by decide))))))
theorem ok_Lknows (T : Tx K mg) (G : Gx tb base T) {k : Nat} {cl : Fid → FC} (C : Cl tb P w base T k cl) : FnOk P w K mg base CX0 (k + 1) T.a_Lknows T.d_Lknows ["_law_company_here", "_law_one", "_law_other"] (spM tb K 3 (mFun 3 (B_Lknows cl))) :=
  have nd := sc_Lknows.nd
  m_fn T.F_Lknows sc_Lknows fun cdv A outer s H E hr => (mss_one (ms_ret (me_cmp (op_inX (room65 hr)) s_inX (me_call C.Ltwo hr (by rfl) T.g_Ltwo T.F_Ltwo.kp T.b_Ltwo pass0 (ma_cons (me_var (i := 1)) (ma_cons (me_var (i := 2)) ma_nil)) (ll_cons (ll_cons ll_nil))) (me_ix ix_A s_ix (me_var (i := 0)) me_int (fun _ _ => rfl)) (by rfl))))
theorem ok_Lsome_besides (T : Tx K mg) (G : Gx tb base T) {k : Nat} {cl : Fid → FC} (C : Cl tb P w base T k cl) : FnOk P w K mg base CX0 (k + 1) T.a_Lsome_besides T.d_Lsome_besides ["_law_cup_here", "_law_named_here", "_law_company_here"] (spM tb K 3 (mFun 6 (B_Lsome_besides cl))) :=
  have nd := sc_Lsome_besides.nd
  m_fn T.F_Lsome_besides sc_Lsome_besides fun cdv A outer s H E hr => (mss_newP (i := 3) (j := 4) rfl nd rfl rfl (by decide) rfl rfl (nm_lstR rfl (by rfl) T.z_list end_2 (prg_2 (by rfl) T.z_range (me_var (i := 1)) (me_ix ix_A s_ix (me_var (i := 2)) me_int (fun _ _ => rfl)))) (me_tup ma_nil (fun r M ds M' h => Nat.le_trans (ln_nil r M ds M' h) (by decide))) (mss_cons (ms_forR1 PassesOwn.never rfl (by rfl) T.z_range (ma_cons (me_call C.Lroll hr (by rfl) T.g_Lroll T.F_Lroll.kp T.b_Lroll pass0 (ma_cons (me_var (i := 0)) (ma_cons (me_op op_addA s_add (me_fn call_len_seq s_len (by rfl) T.z_len (by decide +kernel) (ma_cons (me_var (i := 3)) ma_nil)) me_int) ma_nil)) (ll_cons (ll_cons ll_nil))) ma_nil) (mg_name (i := 5) nd rfl (Or.inl rfl)) (mss_one (ms_asg (me_op op_addA s_add (me_var (i := 4)) (me_tup (ma_cons (me_pop (me_var (i := 3)) (me_call C.Lroll hr (by rfl) T.g_Lroll T.F_Lroll.kp T.b_Lroll pass0 (ma_cons (me_var (i := 0)) (ma_cons (me_fn call_len_seq s_len (by rfl) T.z_len (by decide +kernel) (ma_cons (me_var (i := 3)) ma_nil)) ma_nil)) (ll_cons (ll_cons ll_nil)))) ma_nil) (fun r M ds M' h => Nat.le_trans ((ln_cons ln_nil) r M ds M' h) (by decide)))) (mg_name (i := 4) nd rfl (Or.inl rfl)))))
    (mss_one (ms_ret (me_var (i := 4))))) (by rfl))
theorem ok_Lpairs (T : Tx K mg) (G : Gx tb base T) {k : Nat} {cl : Fid → FC} (C : Cl tb P w base T k cl) : FnOk P w K mg base CX0 (k + 1) T.a_Lpairs T.d_Lpairs ["_law_people"] (spM tb K 1 (mFun 4 (B_Lpairs cl))) :=
  have nd := sc_Lpairs.nd
  m_fn T.F_Lpairs sc_Lpairs fun cdv A outer s H E hr => (mss_cons (ms_asg (me_lst ma_nil (fun r M ds M' h => Nat.le_trans (ln_nil r M ds M' h) (by decide))) (mg_name (i := 1) nd rfl (Or.inl rfl)))
    (mss_cons (ms_forR1 PassesOwn.never rfl (by rfl) T.z_range (ma_cons (me_var (i := 0)) ma_nil) (mg_name (i := 2) nd rfl (Or.inr rfl)) (mss_one (ms_asg (me_op op_addA s_add (me_var (i := 1)) (me_lc (own := [("_law_other", 3)]) (fun _ _ _ h => mt_lcR2 h) rfl nd (pi_range2 (by rfl) T.z_range (ma_cons (me_op op_addA s_add (me_var (i := 2)) me_int) (ma_cons (me_var (i := 0)) ma_nil))) (blkOk_by (N := n_Lpairs) (sc := defScope s_Lpairs) (by decide +kernel)) (fun _ _ _ _ _ => mw_name (i := 3) (by decide) nd rfl (Or.inl rfl)) (fun _ _ _ _ _ => mts_nil) (fun _ _ _ _ _ => (me_tup (ma_cons (me_var (i := 2)) (ma_cons (me_var (i := 3)) ma_nil)) (fun r M ds M' h => Nat.le_trans ((ln_cons (ln_cons ln_nil)) r M ds M' h) (by decide)))))) (mg_name (i := 1) nd rfl (Or.inl rfl)))))
    (mss_one (ms_ret (me_var (i := 1))))))
theorem ok_Lpart (T : Tx K mg) (G : Gx tb base T) {k : Nat} {cl : Fid → FC} (C : Cl tb P w base T k cl) : FnOk P w K mg base CX0 (k + 1) T.a_Lpart T.d_Lpart ["_law_named_here", "_law_company_here", "_law_besides"] (spM tb K 3 (mFun 7 (B_Lpart cl))) :=
  have nd := sc_Lpart.nd
  m_fn T.F_Lpart sc_Lpart fun cdv A outer s H E hr => (mss_cons (ms_asg (me_op op_addA s_add (me_lstR rfl (by rfl) T.z_list end_1 (prg_1 (by rfl) T.z_range (me_var (i := 0)))) (me_ty call_list_of s_list (by rfl) T.z_list (by decide +kernel) (ma_cons (me_var (i := 2)) ma_nil))) (mg_name (i := 3) nd rfl (Or.inr rfl)))
    (mss_cons (ms_setLc (i := 4) (own := [("_law_one", 5), ("_law_other", 6)]) (fun _ _ _ h => mt_lcL h) rfl nd rfl rfl (sw_true rfl rfl rfl (by decide +kernel)) (pi_list (me_call C.Lpairs hr (by rfl) T.g_Lpairs T.F_Lpairs.kp T.b_Lpairs pass0 (ma_cons (me_fn call_len_seq s_len (by rfl) T.z_len (by decide +kernel) (ma_cons (me_var (i := 3)) ma_nil)) ma_nil) (ll_cons ll_nil))) (blkOk_by (N := n_Lpart) (sc := defScope s_Lpart) (by decide +kernel)) (fun _ _ _ _ _ => mw_tup rfl (mws_cons (mw_name (i := 5) (by decide) nd rfl (Or.inl rfl)) (mws_cons (mw_name (i := 6) (by decide) nd rfl (Or.inl rfl)) mws_nil))) (fun _ _ _ _ _ => (mts_one (mp_val (me_call C.Lknows hr (by rfl) T.g_Lknows T.F_Lknows.kp T.b_Lknows pass0 (ma_cons (me_var (i := 1)) (ma_cons (me_ix ix_A s_ix (me_var (i := 3)) (me_var (i := 5)) (fun _ _ => rfl)) (ma_cons (me_ix ix_A s_ix (me_var (i := 3)) (me_var (i := 6)) (fun _ _ => rfl)) ma_nil))) (ll_cons (ll_cons (ll_cons ll_nil))))))) (fun _ _ _ _ _ => (me_tup (ma_cons (me_var (i := 5)) (ma_cons (me_var (i := 6)) ma_nil)) (fun r M ds M' h => Nat.le_trans ((ln_cons (ln_cons ln_nil)) r M ds M' h) (by decide)))))
    (mss_one (ms_ret (me_tup (ma_cons (me_fn call_len_seq s_len (by rfl) T.z_len (by decide +kernel) (ma_cons (me_var (i := 3)) ma_nil)) (ma_cons (me_ty call_tuple_of s_tuple (by rfl) T.z_tuple (by decide +kernel) (ma_cons (me_var (i := 4)) ma_nil)) ma_nil)) (fun r M ds M' h => Nat.le_trans ((ln_cons (ln_cons ln_nil)) r M ds M' h) (by decide)))))))
theorem ok_Lnamed (T : Tx K mg) (G : Gx tb base T) {k : Nat} {cl : Fid → FC} (C : Cl tb P w base T k cl) : FnOk P w K mg base CX0 (k + 1) T.a_Lnamed T.d_Lnamed ["_law_cup_here"] (spM tb K 1 (mFun 1 (B_Lnamed cl))) :=
  have nd := sc_Lnamed.nd
  m_fn T.F_Lnamed sc_Lnamed fun cdv A outer s H E hr => (mss_one (ms_ret (me_call C.Lsome hr (by rfl) T.g_Lsome T.F_Lsome.kp T.b_Lsome pass0 (ma_cons (me_var (i := 0)) (ma_cons (me_lst (ma_cons me_int (ma_cons me_int (ma_cons me_int (ma_cons me_int (ma_cons me_int (ma_cons me_int (ma_cons me_int (ma_cons me_int ma_nil)))))))) (fun r M ds M' h => Nat.le_trans ((ln_cons (ln_cons (ln_cons (ln_cons (ln_cons (ln_cons (ln_cons (ln_cons ln_nil)))))))) r M ds M' h) (by decide))) ma_nil)) (ll_cons (ll_cons ll_nil)))))
theorem ok_Lcompany (T : Tx K mg) (G : Gx tb base T) {k : Nat} {cl : Fid → FC} (C : Cl tb P w base T k cl) : FnOk P w K mg base CX0 (k + 1) T.a_Lcompany T.d_Lcompany ["_law_cup_here", "_law_named_here", "_law_least", "_law_most"] (spM tb K 4 (mFun 7 (B_Lcompany cl))) :=
  have nd := sc_Lcompany.nd
  m_fn T.F_Lcompany sc_Lcompany fun cdv A outer s H E hr => (mss_cons (ms_par2 (i := 4) (j := 5) rfl nd rfl rfl (by decide) rfl rfl (ma_cons (me_op op_addA s_add (me_op op_addA s_add (me_var (i := 1)) (me_var (i := 2))) (me_call C.Lroll hr (by rfl) T.g_Lroll T.F_Lroll.kp T.b_Lroll pass0 (ma_cons (me_var (i := 0)) (ma_cons (me_op op_addA s_add (me_op op_sub s_sub (me_var (i := 3)) (me_var (i := 2))) me_int) ma_nil)) (ll_cons (ll_cons ll_nil)))) (ma_cons (me_call C.Lroll hr (by rfl) T.g_Lroll T.F_Lroll.kp T.b_Lroll pass0 (ma_cons (me_var (i := 0)) (ma_cons me_int ma_nil)) (ll_cons (ll_cons ll_nil))) ma_nil)) (by rfl))
    (mss_cons (ms_if (mp_cmp (op_ltX (units0 hr)) s_ltX (me_var (i := 5)) me_int (nomark _)) (mss_one (ms_ret (me_tup (ma_cons (me_var (i := 4)) (ma_cons (me_if (mp_cmp (op_eqA hr.units) s_eq (me_var (i := 5)) me_int (nomark _)) (me_ty call_tuple_of s_tuple (by rfl) T.z_tuple (by decide +kernel) (ma_cons (me_call C.Lpairs hr (by rfl) T.g_Lpairs T.F_Lpairs.kp T.b_Lpairs pass0 (ma_cons (me_var (i := 4)) ma_nil) (ll_cons ll_nil)) ma_nil)) (me_tup ma_nil (fun r M ds M' h => Nat.le_trans (ln_nil r M ds M' h) (by decide)))) ma_nil)) (fun r M ds M' h => Nat.le_trans ((ln_cons (ln_cons ln_nil)) r M ds M' h) (by decide))))) mss_nil)
    (mss_one (ms_ret (me_tup (ma_cons (me_var (i := 4)) (ma_cons (me_ty call_tuple_of s_tuple (by rfl) T.z_tuple (by decide +kernel) (ma_cons (me_lc (own := [("_law_pair", 6)]) (fun _ _ _ h => mt_lcL h) rfl nd (pi_list (me_call C.Lpairs hr (by rfl) T.g_Lpairs T.F_Lpairs.kp T.b_Lpairs pass0 (ma_cons (me_var (i := 4)) ma_nil) (ll_cons ll_nil))) (blkOk_by (N := n_Lcompany) (sc := defScope s_Lcompany) (by decide +kernel)) (fun _ _ _ _ _ => mw_name (i := 6) (by decide) nd rfl (Or.inl rfl)) (fun _ _ _ _ _ => (mts_one (mp_cmp (op_eqA hr.units) s_eq (me_call C.Lroll hr (by rfl) T.g_Lroll T.F_Lroll.kp T.b_Lroll pass0 (ma_cons (me_var (i := 0)) (ma_cons me_int ma_nil)) (ll_cons (ll_cons ll_nil))) me_int (nomark _)))) (fun _ _ _ _ _ => (me_var (i := 6)))) ma_nil)) ma_nil)) (fun r M ds M' h => Nat.le_trans ((ln_cons (ln_cons ln_nil)) r M ds M' h) (by decide)))))))
theorem ok_Ljudged (T : Tx K mg) (G : Gx tb base T) {k : Nat} {cl : Fid → FC} (C : Cl tb P w base T k cl) : FnOk P w K mg base CX0 (k + 1) T.a_Ljudged T.d_Ljudged ["_law_named_here", "_law_value"] (spM tb K 2 (mFun 3 (B_Ljudged cl))) :=
  have nd := sc_Ljudged.nd
  m_fn T.F_Ljudged sc_Ljudged fun cdv A outer s H E hr => (mss_cons (ms_if (mw_or (mp_not (mp_val (me_isi ty_tuple (by rfl) T.z_isinstance (by decide +kernel) (by rfl) T.z_tuple (by decide +kernel) (me_var (i := 1))))) (mw_or (mp_cmp (op_neA hr.units) s_ne (me_fn call_len_seq s_len (by rfl) T.z_len (by decide +kernel) (ma_cons (me_var (i := 1)) ma_nil)) me_int (nomark _)) (mw_or (mp_not (mp_val (me_call C.Lare_whole hr (by rfl) T.g_Lare_whole T.F_Lare_whole.kp T.b_Lare_whole pass0 (ma_cons (me_sl (me_var (i := 1)) mo_no (mo_some me_int)) (ma_cons (me_var (i := 0)) (ma_cons me_int ma_nil))) (ll_cons (ll_cons (ll_cons ll_nil)))))) (mw_or1 (mp_not (mp_val (me_isi ty_tuple (by rfl) T.z_isinstance (by decide +kernel) (by rfl) T.z_tuple (by decide +kernel) (me_ix ix_A s_ix (me_var (i := 1)) me_int (fun _ _ => rfl))))))))).pt (mss_one (ms_ret me_bl)) mss_nil)
    (mss_cons (ms_if (mp_cmp (op_neA hr.units) s_ne (me_lc (own := [("_law_tie", 2)]) (fun _ _ _ h => mt_lcT h) rfl nd (pi_tup (me_ix ix_A s_ix (me_var (i := 1)) me_int (fun _ _ => rfl))) (blkOk_by (N := n_Ljudged) (sc := defScope s_Ljudged) (by decide +kernel)) (fun _ _ _ _ _ => mw_name (i := 2) (by decide) nd rfl (Or.inl rfl)) (fun _ _ _ _ _ => (mts_one (mw_or (mp_not (mp_val (me_call C.Lare_whole hr (by rfl) T.g_Lare_whole T.F_Lare_whole.kp T.b_Lare_whole pass0 (ma_cons (me_var (i := 2)) (ma_cons me_int (ma_cons (me_op op_sub s_sub (me_ix ix_A s_ix (me_var (i := 1)) me_int (fun _ _ => rfl)) me_int) ma_nil))) (ll_cons (ll_cons (ll_cons ll_nil)))))) (mw_or (mp_cmp (op_neA hr.units) s_ne (me_fn call_len_seq s_len (by rfl) T.z_len (by decide +kernel) (ma_cons (me_var (i := 2)) ma_nil)) me_int (nomark _)) (mw_or1 (mp_cmp op_ge s_ge (me_ix ix_A s_ix (me_var (i := 2)) me_int (fun _ _ => rfl)) (me_ix ix_A s_ix (me_var (i := 2)) me_int (fun _ _ => rfl)) (nomark _))))).pt)) (fun _ _ _ _ _ => me_int)) (me_lst ma_nil (fun r M ds M' h => Nat.le_trans (ln_nil r M ds M' h) (by decide))) (nomark _)) (mss_one (ms_ret me_bl)) mss_nil)
    (mss_one (ms_ret (me_cmp (op_eqA hr.units) s_eq (me_ty call_list_of s_list (by rfl) T.z_list (by decide +kernel) (ma_cons (me_ix ix_A s_ix (me_var (i := 1)) me_int (fun _ _ => rfl)) ma_nil)) (me_sortSet rfl (units64 hr) (by rfl) T.z_sorted (by rfl) T.z_set (me_ix ix_A s_ix (me_var (i := 1)) me_int (fun _ _ => rfl))) (nomark _))))))
theorem ok_Lbent (T : Tx K mg) (G : Gx tb base T) {k : Nat} {cl : Fid → FC} (C : Cl tb P w base T k cl) : FnOk P w K mg base CX0 (k + 1) T.a_Lbent T.d_Lbent ["_law_cup_here", "_law_company_here"] (spM tb K 2 (mFun 8 (B_Lbent cl))) :=
  have nd := sc_Lbent.nd
  m_fn T.F_Lbent sc_Lbent fun cdv A outer s H E hr => (mss_cons (ms_asg (me_var (i := 1)) (mg_tup rfl (mgs_cons (mg_name (i := 2) nd rfl (Or.inl rfl)) (mgs_cons (mg_name (i := 3) nd rfl (Or.inl rfl)) mgs_nil))))
    (mss_cons (ms_asg (me_call C.Lsome hr (by rfl) T.g_Lsome T.F_Lsome.kp T.b_Lsome pass0 (ma_cons (me_var (i := 0)) (ma_cons (me_lst (ma_cons (me_un un_neg s_neg me_int) (ma_cons me_int (ma_cons me_int (ma_cons me_int (ma_cons (me_var (i := 2)) (ma_cons (me_op op_sub s_sub (me_var (i := 2)) me_int) (ma_cons me_non (ma_cons me_bl (ma_cons me_str (ma_cons me_int ma_nil)))))))))) (fun r M ds M' h => Nat.le_trans ((ln_cons (ln_cons (ln_cons (ln_cons (ln_cons (ln_cons (ln_cons (ln_cons (ln_cons (ln_cons ln_nil)))))))))) r M ds M' h) (by decide))) ma_nil)) (ll_cons (ll_cons ll_nil))) (mg_name (i := 4) nd rfl (Or.inl rfl)))
    (mss_cons (ms_asg (me_call C.Lsome hr (by rfl) T.g_Lsome T.F_Lsome.kp T.b_Lsome pass0 (ma_cons (me_var (i := 0)) (ma_cons (me_lst (ma_cons (me_tup (ma_cons me_int (ma_cons (me_var (i := 4)) ma_nil)) (fun r M ds M' h => Nat.le_trans ((ln_cons (ln_cons ln_nil)) r M ds M' h) (by decide))) (ma_cons (me_tup (ma_cons (me_var (i := 4)) (ma_cons me_int ma_nil)) (fun r M ds M' h => Nat.le_trans ((ln_cons (ln_cons ln_nil)) r M ds M' h) (by decide))) (ma_cons (me_tup (ma_cons me_int (ma_cons me_int ma_nil)) (fun r M ds M' h => Nat.le_trans ((ln_cons (ln_cons ln_nil)) r M ds M' h) (by decide))) (ma_cons (me_tup (ma_cons me_int (ma_cons me_int ma_nil)) (fun r M ds M' h => Nat.le_trans ((ln_cons (ln_cons ln_nil)) r M ds M' h) (by decide))) (ma_cons (me_tup (ma_cons me_int (ma_cons me_int (ma_cons me_int ma_nil))) (fun r M ds M' h => Nat.le_trans ((ln_cons (ln_cons (ln_cons ln_nil))) r M ds M' h) (by decide))) (ma_cons (me_lst (ma_cons me_int (ma_cons me_int ma_nil)) (fun r M ds M' h => Nat.le_trans ((ln_cons (ln_cons ln_nil)) r M ds M' h) (by decide))) (ma_cons (me_var (i := 4)) (ma_cons (me_tup (ma_cons me_int (ma_cons (me_op op_sub s_sub (me_var (i := 2)) me_int) ma_nil)) (fun r M ds M' h => Nat.le_trans ((ln_cons (ln_cons ln_nil)) r M ds M' h) (by decide))) ma_nil)))))))) (fun r M ds M' h => Nat.le_trans ((ln_cons (ln_cons (ln_cons (ln_cons (ln_cons (ln_cons (ln_cons (ln_cons ln_nil)))))))) r M ds M' h) (by decide))) ma_nil)) (ll_cons (ll_cons ll_nil))) (mg_name (i := 5) nd rfl (Or.inl rfl)))
    (mss_cons (ms_asg (me_call C.Lroll hr (by rfl) T.g_Lroll T.F_Lroll.kp T.b_Lroll pass0 (ma_cons (me_var (i := 0)) (ma_cons (me_op op_addA s_add (me_fn call_len_seq s_len (by rfl) T.z_len (by decide +kernel) (ma_cons (me_var (i := 3)) ma_nil)) me_int) ma_nil)) (ll_cons (ll_cons ll_nil))) (mg_name (i := 6) nd rfl (Or.inl rfl)))
    (mss_cons (ms_asg (me_lst (ma_cons (me_tup (ma_cons (me_var (i := 2)) (ma_cons (me_op op_addA s_add (me_op op_addA s_add (me_sl (me_var (i := 3)) mo_no (mo_some (me_var (i := 6)))) (me_tup (ma_cons (me_var (i := 5)) ma_nil) (fun r M ds M' h => Nat.le_trans ((ln_cons ln_nil) r M ds M' h) (by decide)))) (me_sl (me_var (i := 3)) (mo_some (me_var (i := 6))) mo_no)) ma_nil)) (fun r M ds M' h => Nat.le_trans ((ln_cons (ln_cons ln_nil)) r M ds M' h) (by decide))) (ma_cons (me_tup (ma_cons (me_var (i := 2)) (ma_cons (me_op op_addA s_add (me_op op_addA s_add (me_sl (me_var (i := 3)) mo_no (mo_some (me_var (i := 6)))) (me_tup (ma_cons (me_var (i := 5)) ma_nil) (fun r M ds M' h => Nat.le_trans ((ln_cons ln_nil) r M ds M' h) (by decide)))) (me_sl (me_var (i := 3)) (mo_some (me_op op_addA s_add (me_var (i := 6)) me_int)) mo_no)) ma_nil)) (fun r M ds M' h => Nat.le_trans ((ln_cons (ln_cons ln_nil)) r M ds M' h) (by decide))) (ma_cons (me_tup (ma_cons (me_var (i := 4)) (ma_cons (me_var (i := 3)) ma_nil)) (fun r M ds M' h => Nat.le_trans ((ln_cons (ln_cons ln_nil)) r M ds M' h) (by decide))) (ma_cons (me_tup (ma_cons (me_var (i := 2)) (ma_cons (me_rev (me_var (i := 3))) ma_nil)) (fun r M ds M' h => Nat.le_trans ((ln_cons (ln_cons ln_nil)) r M ds M' h) (by decide))) (ma_cons (me_tup (ma_cons (me_op op_sub s_sub (me_var (i := 2)) me_int) (ma_cons (me_var (i := 3)) ma_nil)) (fun r M ds M' h => Nat.le_trans ((ln_cons (ln_cons ln_nil)) r M ds M' h) (by decide))) ma_nil))))) (fun r M ds M' h => Nat.le_trans ((ln_cons (ln_cons (ln_cons (ln_cons (ln_cons ln_nil))))) r M ds M' h) (by decide))) (mg_name (i := 7) nd rfl (Or.inl rfl)))
    (mss_one (ms_ret (me_call C.Lsome hr (by rfl) T.g_Lsome T.F_Lsome.kp T.b_Lsome pass0 (ma_cons (me_var (i := 0)) (ma_cons (me_op op_addA s_add (me_op op_addA s_add (me_var (i := 7)) (me_sl (me_var (i := 7)) mo_no (mo_some me_int))) (me_lst (ma_cons (me_tup (ma_cons (me_op op_addA s_add (me_var (i := 2)) me_int) (ma_cons (me_var (i := 3)) ma_nil)) (fun r M ds M' h => Nat.le_trans ((ln_cons (ln_cons ln_nil)) r M ds M' h) (by decide))) (ma_cons (me_tup (ma_cons (me_var (i := 2)) (ma_cons (me_ty call_list_of s_list (by rfl) T.z_list (by decide +kernel) (ma_cons (me_var (i := 3)) ma_nil)) ma_nil)) (fun r M ds M' h => Nat.le_trans ((ln_cons (ln_cons ln_nil)) r M ds M' h) (by decide))) (ma_cons (me_lst (ma_cons (me_var (i := 2)) (ma_cons (me_var (i := 3)) ma_nil)) (fun r M ds M' h => Nat.le_trans ((ln_cons (ln_cons ln_nil)) r M ds M' h) (by decide))) (ma_cons (me_tup (ma_cons (me_var (i := 2)) ma_nil) (fun r M ds M' h => Nat.le_trans ((ln_cons ln_nil) r M ds M' h) (by decide))) (ma_cons me_non (ma_cons (me_tup (ma_cons (me_var (i := 3)) (ma_cons (me_var (i := 2)) ma_nil)) (fun r M ds M' h => Nat.le_trans ((ln_cons (ln_cons ln_nil)) r M ds M' h) (by decide))) (ma_cons (me_tup (ma_cons (me_var (i := 2)) (ma_cons (me_op op_addA s_add (me_var (i := 3)) (me_sl (me_var (i := 3)) (mo_some (me_un un_neg s_neg me_int)) mo_no)) ma_nil)) (fun r M ds M' h => Nat.le_trans ((ln_cons (ln_cons ln_nil)) r M ds M' h) (by decide))) ma_nil))))))) (fun r M ds M' h => Nat.le_trans ((ln_cons (ln_cons (ln_cons (ln_cons (ln_cons (ln_cons (ln_cons ln_nil))))))) r M ds M' h) (by decide)))) ma_nil)) (ll_cons (ll_cons ll_nil))))))))))
theorem ok_Lright (T : Tx K mg) (G : Gx tb base T) {k : Nat} {cl : Fid → FC} (C : Cl tb P w base T k cl) : FnOk P w K mg base CX0 (k + 1) T.a_Lright T.d_Lright ["_law_cup_here", "_law_named_here", "_law_company_here"] (spM tb K 3 (mFun 11 (B_Lright cl))) :=
  have nd := sc_Lright.nd
  m_fn T.F_Lright sc_Lright fun cdv A outer s H E hr => (mss_cons (ms_if (mp_cmp op_isNotA s_isNot (me_call C.p_is_company hr (by rfl) T.g_p_is_company T.F_p_is_company.kp T.b_p_is_company pass0 (ma_cons (me_var (i := 1)) (ma_cons (me_var (i := 2)) ma_nil)) (ll_cons (ll_cons ll_nil))) me_bl (nomark _)) (mss_one (ms_ret me_bl)) mss_nil)
    (mss_cons (ms_forR1 PassesOwn.never rfl (by rfl) T.z_range (ma_cons (me_ix ix_A s_ix (me_var (i := 2)) me_int (fun _ _ => rfl)) ma_nil) (mg_name (i := 3) nd rfl (Or.inr rfl)) (mss_cons (ms_setLc (i := 4) (own := [("_law_other", 9)]) (fun _ _ _ h => mt_lcR1 h) rfl nd rfl rfl (sw_true rfl rfl rfl (by decide +kernel)) (pi_range1 (by rfl) T.z_range (ma_cons (me_ix ix_A s_ix (me_var (i := 2)) me_int (fun _ _ => rfl)) ma_nil)) (blkOk_by (N := n_Lright) (sc := defScope s_Lright) (by decide +kernel)) (fun _ _ _ _ _ => mw_name (i := 9) (by decide) nd rfl (Or.inl rfl)) (fun _ _ _ _ _ => (mts_one (mp_cmp (op_neA hr.units) s_ne (me_var (i := 9)) (me_var (i := 3)) (nomark _)))) (fun _ _ _ _ _ => (me_var (i := 9))))
    (mss_cons (ms_if (mp_cmp (op_neA hr.units) s_ne (me_call C.p_known_to hr (by rfl) T.g_p_known_to T.F_p_known_to.kp T.b_p_known_to pass0 (ma_cons (me_var (i := 1)) (ma_cons (me_var (i := 2)) (ma_cons (me_var (i := 3)) ma_nil))) (ll_cons (ll_cons (ll_cons ll_nil)))) (me_ty call_tuple_of s_tuple (by rfl) T.z_tuple (by decide +kernel) (ma_cons (me_lc (own := [("_law_other", 9)]) (fun _ _ _ h => mt_lcL h) rfl nd (pi_list (me_var (i := 4))) (blkOk_by (N := n_Lright) (sc := defScope s_Lright) (by decide +kernel)) (fun _ _ _ _ _ => mw_name (i := 9) (by decide) nd rfl (Or.inl rfl)) (fun _ _ _ _ _ => (mts_one (mp_val (me_call C.Lknows hr (by rfl) T.g_Lknows T.F_Lknows.kp T.b_Lknows pass0 (ma_cons (me_var (i := 2)) (ma_cons (me_var (i := 3)) (ma_cons (me_var (i := 9)) ma_nil))) (ll_cons (ll_cons (ll_cons ll_nil))))))) (fun _ _ _ _ _ => (me_var (i := 9)))) ma_nil)) (nomark _)) (mss_one (ms_ret me_bl)) mss_nil)
    (mss_cons (ms_setLc (i := 5) (own := [("_law_other", 9)]) (fun _ _ _ h => mt_lcL h) rfl nd rfl rfl (sw_true rfl rfl rfl (by decide +kernel)) (pi_list (me_var (i := 4))) (blkOk_by (N := n_Lright) (sc := defScope s_Lright) (by decide +kernel)) (fun _ _ _ _ _ => mw_name (i := 9) (by decide) nd rfl (Or.inl rfl)) (fun _ _ _ _ _ => mts_nil) (fun _ _ _ _ _ => (me_call C.p_do_know hr (by rfl) T.g_p_do_know T.F_p_do_know.kp T.b_p_do_know pass0 (ma_cons (me_var (i := 1)) (ma_cons (me_var (i := 2)) (ma_cons (me_var (i := 3)) (ma_cons (me_var (i := 9)) ma_nil)))) (ll_cons (ll_cons (ll_cons (ll_cons ll_nil)))))))
    (mss_one (ms_if (mw_or (mp_cmp (op_neA hr.units) s_ne (me_var (i := 5)) (me_lc (own := [("_law_other", 9)]) (fun _ _ _ h => mt_lcL h) rfl nd (pi_list (me_var (i := 4))) (blkOk_by (N := n_Lright) (sc := defScope s_Lright) (by decide +kernel)) (fun _ _ _ _ _ => mw_name (i := 9) (by decide) nd rfl (Or.inl rfl)) (fun _ _ _ _ _ => mts_nil) (fun _ _ _ _ _ => (me_call C.Lknows hr (by rfl) T.g_Lknows T.F_Lknows.kp T.b_Lknows pass0 (ma_cons (me_var (i := 2)) (ma_cons (me_var (i := 3)) (ma_cons (me_var (i := 9)) ma_nil))) (ll_cons (ll_cons (ll_cons ll_nil)))))) (nomark _)) (mw_or1 (mp_cmp (op_neA hr.units) s_ne (me_lc (own := [("_law_one", 10)]) (fun _ _ _ h => mt_lcL h) rfl nd (pi_list (me_var (i := 5))) (blkOk_by (N := n_Lright) (sc := defScope s_Lright) (by decide +kernel)) (fun _ _ _ _ _ => mw_name (i := 10) (by decide) nd rfl (Or.inl rfl)) (fun _ _ _ _ _ => (mts_one (mp_not (mp_val (me_isi ty_bool (by rfl) T.z_isinstance (by decide +kernel) (by rfl) T.z_bool (by decide +kernel) (me_var (i := 10))))))) (fun _ _ _ _ _ => me_int)) (me_lst ma_nil (fun r M ds M' h => Nat.le_trans (ln_nil r M ds M' h) (by decide))) (nomark _)))).pt (mss_one (ms_ret me_bl)) mss_nil))))))
    (mss_cons (ms_asg (me_call C.Lsome_besides hr (by rfl) T.g_Lsome_besides T.F_Lsome_besides.kp T.b_Lsome_besides pass0 (ma_cons (me_var (i := 0)) (ma_cons (me_var (i := 1)) (ma_cons (me_var (i := 2)) ma_nil))) (ll_cons (ll_cons (ll_cons ll_nil)))) (mg_name (i := 6) nd rfl (Or.inl rfl)))
    (mss_cons (ms_if (mp_cmp (op_neA hr.units) s_ne (me_call C.p_part_of hr (by rfl) T.g_p_part_of T.F_p_part_of.kp T.b_p_part_of pass0 (ma_cons (me_var (i := 1)) (ma_cons (me_var (i := 2)) (ma_cons (me_var (i := 6)) ma_nil))) (ll_cons (ll_cons (ll_cons ll_nil)))) (me_call C.Lpart hr (by rfl) T.g_Lpart T.F_Lpart.kp T.b_Lpart pass0 (ma_cons (me_var (i := 1)) (ma_cons (me_var (i := 2)) (ma_cons (me_var (i := 6)) ma_nil))) (ll_cons (ll_cons (ll_cons ll_nil)))) (nomark _)) (mss_one (ms_ret me_bl)) mss_nil)
    (mss_cons (ms_forR1 PassesOwn.never rfl (by rfl) T.z_range (ma_cons me_int ma_nil) (mg_name (i := 7) nd rfl (Or.inl rfl)) (mss_cons (ms_asg (me_call C.Lbent hr (by rfl) T.g_Lbent T.F_Lbent.kp T.b_Lbent pass0 (ma_cons (me_var (i := 0)) (ma_cons (me_var (i := 2)) ma_nil)) (ll_cons (ll_cons ll_nil))) (mg_name (i := 8) nd rfl (Or.inl rfl)))
    (mss_cons (ms_asg (me_call C.p_is_company hr (by rfl) T.g_p_is_company T.F_p_is_company.kp T.b_p_is_company pass0 (ma_cons (me_var (i := 1)) (ma_cons (me_var (i := 8)) ma_nil)) (ll_cons (ll_cons ll_nil))) (mg_name (i := 5) nd rfl (Or.inl rfl)))
    (mss_one (ms_if (mw_or (mp_not (mp_val (me_isi ty_bool (by rfl) T.z_isinstance (by decide +kernel) (by rfl) T.z_bool (by decide +kernel) (me_var (i := 5))))) (mw_or1 (mp_cmp (op_neA hr.units) s_ne (me_var (i := 5)) (me_call C.Ljudged hr (by rfl) T.g_Ljudged T.F_Ljudged.kp T.b_Ljudged pass0 (ma_cons (me_var (i := 1)) (ma_cons (me_var (i := 8)) ma_nil)) (ll_cons (ll_cons ll_nil))) (nomark _)))).pt (mss_one (ms_ret me_bl)) mss_nil)))))
    (mss_one (ms_ret me_bl)))))))
theorem all_ok (T : Tx K mg) (gx : Gx tb base T) : ∀ k : Nat, Cl tb P w base T k (G k)
  | 0 => ⟨fn0, fn0, fn0, fn0, fn0, fn0, fn0, fn0, fn0, fn0, fn0, fn0, fn0, fn0, fn0, fn0, fn0, fn0, fn0, fn0, fn0, fn0, fn0, fn0, fn0, fn0, fn0, fn0, fn0, fn0, fn0, fn0, fn0⟩
  | k + 1 => ⟨ok_p_is_integer T gx (all_ok T gx k), ok_p_is_between T gx (all_ok T gx k), ok_p_is_tuple_of T gx (all_ok T gx k), ok_p_is_ascending T gx (all_ok T gx k), ok_p_are_unlike_between T gx (all_ok T gx k), ok_p_is_pair_of T gx (all_ok T gx k), ok_p_are_ties_of T gx (all_ok T gx k), ok_p_is_company_of T gx (all_ok T gx k), ok_p_check_named T gx (all_ok T gx k), ok_p_check_company T gx (all_ok T gx k), ok_p_check_person T gx (all_ok T gx k), ok_p_check_other T gx (all_ok T gx k), ok_p_check_besides T gx (all_ok T gx k), ok_p_pairs_of T gx (all_ok T gx k), ok_p_pair_of T gx (all_ok T gx k), ok_p_part_for T gx (all_ok T gx k), ok_p_is_company T gx (all_ok T gx k), ok_p_do_know T gx (all_ok T gx k), ok_p_known_to T gx (all_ok T gx k), ok_p_part_of T gx (all_ok T gx k), ok_Lroll T gx (all_ok T gx k), ok_Lsome T gx (all_ok T gx k), ok_Lare_whole T gx (all_ok T gx k), ok_Ltwo T gx (all_ok T gx k), ok_Lknows T gx (all_ok T gx k), ok_Lsome_besides T gx (all_ok T gx k), ok_Lpairs T gx (all_ok T gx k), ok_Lpart T gx (all_ok T gx k), ok_Lnamed T gx (all_ok T gx k), ok_Lcompany T gx (all_ok T gx k), ok_Ljudged T gx (all_ok T gx k), ok_Lbent T gx (all_ok T gx k), ok_Lright T gx (all_ok T gx k)⟩
/-- .. and the list's maker -/
structure ClL (tb : List Addr) (P : Program) (w : World) (base : Heap) (T : Tx K mg) (k : Nat) (cl : Fid → FC) : Prop extends Cl tb P w base T k cl where
  Lcup : FnOk P w K mg base CX0 k T.a_Lcup T.d_Lcup ["_law_script"] (spF tb K 1 g_Lcup)
theorem ok_Law (T : Tx K mg) (G : Gx tb base T) {k : Nat} {cl : Fid → FC} (C : ClL tb P w base T k cl) : FnOk P w K mg base CX0 (k + 1) T.a_Law T.d_Law ["_law_script"] (spM tb K 1 (mFun 8 (B_Law cl))) :=
  have nd := sc_Law.nd
  m_fn T.F_Law sc_Law fun cdv A outer s H E hr => (mss_mu (i := 1) C.Lcup hr (by rfl) T.g_Lcup T.F_Lcup.kp T.b_Lcup pass0 (ma_cons (me_var (i := 0)) ma_nil) (ll_cons ll_nil) nd rfl (Or.inl rfl) (mss_cons (ms_forR1 PassesOwn.never rfl (by rfl) T.z_range (ma_cons me_int ma_nil) (mg_name (i := 2) nd rfl (Or.inl rfl)) (mss_cons (ms_asg (me_call C.Lnamed hr (by rfl) T.g_Lnamed T.F_Lnamed.kp T.b_Lnamed pass0 (ma_cons (me_var (i := 1)) ma_nil) (ll_cons ll_nil)) (mg_name (i := 3) nd rfl (Or.inl rfl)))
    (mss_one (ms_if (mp_not (mp_val (me_call C.Lright hr (by rfl) T.g_Lright T.F_Lright.kp T.b_Lright pass0 (ma_cons (me_var (i := 1)) (ma_cons (me_var (i := 3)) (ma_cons (me_call C.Lcompany hr (by rfl) T.g_Lcompany T.F_Lcompany.kp T.b_Lcompany pass0 (ma_cons (me_var (i := 1)) (ma_cons (me_var (i := 3)) (ma_cons me_int (ma_cons me_int ma_nil)))) (ll_cons (ll_cons (ll_cons (ll_cons ll_nil))))) ma_nil))) (ll_cons (ll_cons (ll_cons ll_nil)))))) (mss_one (ms_ret me_bl)) mss_nil))))
    (mss_cons (ms_asg (me_tup (ma_cons me_int (ma_cons (me_tup (ma_cons (me_tup (ma_cons me_int (ma_cons me_int ma_nil)) (fun r M ds M' h => Nat.le_trans ((ln_cons (ln_cons ln_nil)) r M ds M' h) (by decide))) (ma_cons (me_tup (ma_cons me_int (ma_cons me_int ma_nil)) (fun r M ds M' h => Nat.le_trans ((ln_cons (ln_cons ln_nil)) r M ds M' h) (by decide))) ma_nil)) (fun r M ds M' h => Nat.le_trans ((ln_cons (ln_cons ln_nil)) r M ds M' h) (by decide))) ma_nil)) (fun r M ds M' h => Nat.le_trans ((ln_cons (ln_cons ln_nil)) r M ds M' h) (by decide))) (mg_name (i := 4) nd rfl (Or.inl rfl)))
    (mss_cons (ms_asg (me_lst (ma_cons (me_tup (ma_cons me_int (ma_cons (me_var (i := 4)) (ma_cons me_bl ma_nil))) (fun r M ds M' h => Nat.le_trans ((ln_cons (ln_cons (ln_cons ln_nil))) r M ds M' h) (by decide))) (ma_cons (me_tup (ma_cons me_int (ma_cons (me_var (i := 4)) (ma_cons me_bl ma_nil))) (fun r M ds M' h => Nat.le_trans ((ln_cons (ln_cons (ln_cons ln_nil))) r M ds M' h) (by decide))) (ma_cons (me_tup (ma_cons me_int (ma_cons (me_tup (ma_cons me_int (ma_cons (me_tup ma_nil (fun r M ds M' h => Nat.le_trans (ln_nil r M ds M' h) (by decide))) ma_nil)) (fun r M ds M' h => Nat.le_trans ((ln_cons (ln_cons ln_nil)) r M ds M' h) (by decide))) (ma_cons me_bl ma_nil))) (fun r M ds M' h => Nat.le_trans ((ln_cons (ln_cons (ln_cons ln_nil))) r M ds M' h) (by decide))) (ma_cons (me_tup (ma_cons me_int (ma_cons (me_tup (ma_cons me_int (ma_cons (me_tup (ma_cons (me_tup (ma_cons me_int (ma_cons me_int ma_nil)) (fun r M ds M' h => Nat.le_trans ((ln_cons (ln_cons ln_nil)) r M ds M' h) (by decide))) ma_nil) (fun r M ds M' h => Nat.le_trans ((ln_cons ln_nil) r M ds M' h) (by decide))) ma_nil)) (fun r M ds M' h => Nat.le_trans ((ln_cons (ln_cons ln_nil)) r M ds M' h) (by decide))) (ma_cons me_bl ma_nil))) (fun r M ds M' h => Nat.le_trans ((ln_cons (ln_cons (ln_cons ln_nil))) r M ds M' h) (by decide))) (ma_cons (me_tup (ma_cons me_int (ma_cons (me_tup (ma_cons me_int (ma_cons (me_tup ma_nil (fun r M ds M' h => Nat.le_trans (ln_nil r M ds M' h) (by decide))) ma_nil)) (fun r M ds M' h => Nat.le_trans ((ln_cons (ln_cons ln_nil)) r M ds M' h) (by decide))) (ma_cons me_bl ma_nil))) (fun r M ds M' h => Nat.le_trans ((ln_cons (ln_cons (ln_cons ln_nil))) r M ds M' h) (by decide))) (ma_cons (me_tup (ma_cons me_int (ma_cons (me_tup (ma_cons me_int (ma_cons (me_tup ma_nil (fun r M ds M' h => Nat.le_trans (ln_nil r M ds M' h) (by decide))) ma_nil)) (fun r M ds M' h => Nat.le_trans ((ln_cons (ln_cons ln_nil)) r M ds M' h) (by decide))) (ma_cons me_bl ma_nil))) (fun r M ds M' h => Nat.le_trans ((ln_cons (ln_cons (ln_cons ln_nil))) r M ds M' h) (by decide))) (ma_cons (me_tup (ma_cons me_int (ma_cons (me_tup (ma_cons me_int (ma_cons (me_tup ma_nil (fun r M ds M' h => Nat.le_trans (ln_nil r M ds M' h) (by decide))) ma_nil)) (fun r M ds M' h => Nat.le_trans ((ln_cons (ln_cons ln_nil)) r M ds M' h) (by decide))) (ma_cons me_bl ma_nil))) (fun r M ds M' h => Nat.le_trans ((ln_cons (ln_cons (ln_cons ln_nil))) r M ds M' h) (by decide))) ma_nil))))))) (fun r M ds M' h => Nat.le_trans ((ln_cons (ln_cons (ln_cons (ln_cons (ln_cons (ln_cons (ln_cons ln_nil))))))) r M ds M' h) (by decide))) (mg_name (i := 5) nd rfl (Or.inl rfl)))
    (mss_cons (ms_asg (me_op op_addA s_add (me_var (i := 5)) (me_lst (ma_cons (me_tup (ma_cons me_int (ma_cons (me_tup (ma_cons me_int (ma_cons (me_tup ma_nil (fun r M ds M' h => Nat.le_trans (ln_nil r M ds M' h) (by decide))) ma_nil)) (fun r M ds M' h => Nat.le_trans ((ln_cons (ln_cons ln_nil)) r M ds M' h) (by decide))) (ma_cons me_bl ma_nil))) (fun r M ds M' h => Nat.le_trans ((ln_cons (ln_cons (ln_cons ln_nil))) r M ds M' h) (by decide))) (ma_cons (me_tup (ma_cons me_int (ma_cons (me_tup (ma_cons me_int (ma_cons (me_tup (ma_cons (me_tup (ma_cons me_int (ma_cons me_int ma_nil)) (fun r M ds M' h => Nat.le_trans ((ln_cons (ln_cons ln_nil)) r M ds M' h) (by decide))) (ma_cons (me_tup (ma_cons me_int (ma_cons me_int ma_nil)) (fun r M ds M' h => Nat.le_trans ((ln_cons (ln_cons ln_nil)) r M ds M' h) (by decide))) ma_nil)) (fun r M ds M' h => Nat.le_trans ((ln_cons (ln_cons ln_nil)) r M ds M' h) (by decide))) ma_nil)) (fun r M ds M' h => Nat.le_trans ((ln_cons (ln_cons ln_nil)) r M ds M' h) (by decide))) (ma_cons me_bl ma_nil))) (fun r M ds M' h => Nat.le_trans ((ln_cons (ln_cons (ln_cons ln_nil))) r M ds M' h) (by decide))) (ma_cons (me_tup (ma_cons me_int (ma_cons (me_tup (ma_cons me_int (ma_cons (me_tup (ma_cons (me_tup (ma_cons me_int (ma_cons me_int ma_nil)) (fun r M ds M' h => Nat.le_trans ((ln_cons (ln_cons ln_nil)) r M ds M' h) (by decide))) (ma_cons (me_tup (ma_cons me_int (ma_cons me_int ma_nil)) (fun r M ds M' h => Nat.le_trans ((ln_cons (ln_cons ln_nil)) r M ds M' h) (by decide))) ma_nil)) (fun r M ds M' h => Nat.le_trans ((ln_cons (ln_cons ln_nil)) r M ds M' h) (by decide))) ma_nil)) (fun r M ds M' h => Nat.le_trans ((ln_cons (ln_cons ln_nil)) r M ds M' h) (by decide))) (ma_cons me_bl ma_nil))) (fun r M ds M' h => Nat.le_trans ((ln_cons (ln_cons (ln_cons ln_nil))) r M ds M' h) (by decide))) (ma_cons (me_tup (ma_cons me_int (ma_cons (me_tup (ma_cons me_int (ma_cons (me_tup (ma_cons (me_tup (ma_cons me_int (ma_cons me_int ma_nil)) (fun r M ds M' h => Nat.le_trans ((ln_cons (ln_cons ln_nil)) r M ds M' h) (by decide))) ma_nil) (fun r M ds M' h => Nat.le_trans ((ln_cons ln_nil) r M ds M' h) (by decide))) ma_nil)) (fun r M ds M' h => Nat.le_trans ((ln_cons (ln_cons ln_nil)) r M ds M' h) (by decide))) (ma_cons me_bl ma_nil))) (fun r M ds M' h => Nat.le_trans ((ln_cons (ln_cons (ln_cons ln_nil))) r M ds M' h) (by decide))) (ma_cons (me_tup (ma_cons me_int (ma_cons (me_tup (ma_cons me_int (ma_cons (me_tup (ma_cons (me_tup (ma_cons me_int (ma_cons me_int ma_nil)) (fun r M ds M' h => Nat.le_trans ((ln_cons (ln_cons ln_nil)) r M ds M' h) (by decide))) ma_nil) (fun r M ds M' h => Nat.le_trans ((ln_cons ln_nil) r M ds M' h) (by decide))) ma_nil)) (fun r M ds M' h => Nat.le_trans ((ln_cons (ln_cons ln_nil)) r M ds M' h) (by decide))) (ma_cons me_bl ma_nil))) (fun r M ds M' h => Nat.le_trans ((ln_cons (ln_cons (ln_cons ln_nil))) r M ds M' h) (by decide))) ma_nil))))) (fun r M ds M' h => Nat.le_trans ((ln_cons (ln_cons (ln_cons (ln_cons (ln_cons ln_nil))))) r M ds M' h) (by decide)))) (mg_name (i := 5) nd rfl (Or.inl rfl)))
    (mss_cons (ms_if (mp_cmp (op_neA hr.units) s_ne (me_lc (own := [("_law_named_here", 3), ("_law_value", 6), ("_law_due", 7)]) (fun _ _ _ h => mt_lcL h) rfl nd (pi_list (me_var (i := 5))) (blkOk_by (N := n_Law) (sc := defScope s_Law) (by decide +kernel)) (fun _ _ _ _ _ => mw_tup rfl (mws_cons (mw_name (i := 3) (by decide) nd rfl (Or.inl rfl)) (mws_cons (mw_name (i := 6) (by decide) nd rfl (Or.inl rfl)) (mws_cons (mw_name (i := 7) (by decide) nd rfl (Or.inl rfl)) mws_nil)))) (fun _ _ _ _ _ => (mts_one (mp_cmp (op_neA hr.units) s_ne (me_call C.p_is_company hr (by rfl) T.g_p_is_company T.F_p_is_company.kp T.b_p_is_company pass0 (ma_cons (me_var (i := 3)) (ma_cons (me_var (i := 6)) ma_nil)) (ll_cons (ll_cons ll_nil))) (me_var (i := 7)) (nomark _)))) (fun _ _ _ _ _ => me_int)) (me_lst ma_nil (fun r M ds M' h => Nat.le_trans (ln_nil r M ds M' h) (by decide))) (nomark _)) (mss_one (ms_ret me_bl)) mss_nil)
    (mss_cons (ms_if (mw_or (mp_cmp op_isNotA s_isNot (me_call C.p_do_know hr (by rfl) T.g_p_do_know T.F_p_do_know.kp T.b_p_do_know pass0 (ma_cons me_int (ma_cons (me_var (i := 4)) (ma_cons me_int (ma_cons me_int ma_nil)))) (ll_cons (ll_cons (ll_cons (ll_cons ll_nil))))) me_bl (nomark _)) (mw_or (mp_cmp op_isNotA s_isNot (me_call C.p_do_know hr (by rfl) T.g_p_do_know T.F_p_do_know.kp T.b_p_do_know pass0 (ma_cons me_int (ma_cons (me_var (i := 4)) (ma_cons me_int (ma_cons me_int ma_nil)))) (ll_cons (ll_cons (ll_cons (ll_cons ll_nil))))) me_bl (nomark _)) (mw_or (mp_cmp (op_neA hr.units) s_ne (me_call C.p_known_to hr (by rfl) T.g_p_known_to T.F_p_known_to.kp T.b_p_known_to pass0 (ma_cons me_int (ma_cons (me_var (i := 4)) (ma_cons me_int ma_nil))) (ll_cons (ll_cons (ll_cons ll_nil)))) (me_tup (ma_cons me_int ma_nil) (fun r M ds M' h => Nat.le_trans ((ln_cons ln_nil) r M ds M' h) (by decide))) (nomark _)) (mw_or1 (mp_cmp (op_neA hr.units) s_ne (me_call C.p_known_to hr (by rfl) T.g_p_known_to T.F_p_known_to.kp T.b_p_known_to pass0 (ma_cons me_int (ma_cons (me_tup (ma_cons me_int (ma_cons (me_tup ma_nil (fun r M ds M' h => Nat.le_trans (ln_nil r M ds M' h) (by decide))) ma_nil)) (fun r M ds M' h => Nat.le_trans ((ln_cons (ln_cons ln_nil)) r M ds M' h) (by decide))) (ma_cons me_int ma_nil))) (ll_cons (ll_cons (ll_cons ll_nil)))) (me_tup ma_nil (fun r M ds M' h => Nat.le_trans (ln_nil r M ds M' h) (by decide))) (nomark _)))))).pt (mss_one (ms_ret me_bl)) mss_nil)
    (mss_cons (ms_if (mw_or (mp_cmp (op_neA hr.units) s_ne (me_call C.p_part_of hr (by rfl) T.g_p_part_of T.F_p_part_of.kp T.b_p_part_of pass0 (ma_cons me_int (ma_cons (me_var (i := 4)) (ma_cons (me_tup (ma_cons me_int ma_nil) (fun r M ds M' h => Nat.le_trans ((ln_cons ln_nil) r M ds M' h) (by decide))) ma_nil))) (ll_cons (ll_cons (ll_cons ll_nil)))) (me_tup (ma_cons me_int (ma_cons (me_tup (ma_cons (me_tup (ma_cons me_int (ma_cons me_int ma_nil)) (fun r M ds M' h => Nat.le_trans ((ln_cons (ln_cons ln_nil)) r M ds M' h) (by decide))) ma_nil) (fun r M ds M' h => Nat.le_trans ((ln_cons ln_nil) r M ds M' h) (by decide))) ma_nil)) (fun r M ds M' h => Nat.le_trans ((ln_cons (ln_cons ln_nil)) r M ds M' h) (by decide))) (nomark _)) (mw_or (mp_cmp (op_neA hr.units) s_ne (me_call C.p_part_of hr (by rfl) T.g_p_part_of T.F_p_part_of.kp T.b_p_part_of pass0 (ma_cons me_int (ma_cons (me_var (i := 4)) (ma_cons (me_tup (ma_cons me_int (ma_cons me_int ma_nil)) (fun r M ds M' h => Nat.le_trans ((ln_cons (ln_cons ln_nil)) r M ds M' h) (by decide))) ma_nil))) (ll_cons (ll_cons (ll_cons ll_nil)))) (me_tup (ma_cons me_int (ma_cons (me_tup (ma_cons (me_tup (ma_cons me_int (ma_cons me_int ma_nil)) (fun r M ds M' h => Nat.le_trans ((ln_cons (ln_cons ln_nil)) r M ds M' h) (by decide))) (ma_cons (me_tup (ma_cons me_int (ma_cons me_int ma_nil)) (fun r M ds M' h => Nat.le_trans ((ln_cons (ln_cons ln_nil)) r M ds M' h) (by decide))) ma_nil)) (fun r M ds M' h => Nat.le_trans ((ln_cons (ln_cons ln_nil)) r M ds M' h) (by decide))) ma_nil)) (fun r M ds M' h => Nat.le_trans ((ln_cons (ln_cons ln_nil)) r M ds M' h) (by decide))) (nomark _)) (mw_or1 (mp_cmp (op_neA hr.units) s_ne (me_call C.p_part_of hr (by rfl) T.g_p_part_of T.F_p_part_of.kp T.b_p_part_of pass0 (ma_cons me_int (ma_cons (me_var (i := 4)) (ma_cons (me_tup ma_nil (fun r M ds M' h => Nat.le_trans (ln_nil r M ds M' h) (by decide))) ma_nil))) (ll_cons (ll_cons (ll_cons ll_nil)))) (me_tup (ma_cons me_int (ma_cons (me_tup ma_nil (fun r M ds M' h => Nat.le_trans (ln_nil r M ds M' h) (by decide))) ma_nil)) (fun r M ds M' h => Nat.le_trans ((ln_cons (ln_cons ln_nil)) r M ds M' h) (by decide))) (nomark _))))).pt (mss_one (ms_ret me_bl)) mss_nil)
    (mss_one (ms_ret (me_and (me_cmp (op_eqA hr.units) s_eq (me_call C.p_part_of hr (by rfl) T.g_p_part_of T.F_p_part_of.kp T.b_p_part_of pass0 (ma_cons me_int (ma_cons (me_tup (ma_cons me_int (ma_cons (me_tup (ma_cons (me_tup (ma_cons me_int (ma_cons me_int ma_nil)) (fun r M ds M' h => Nat.le_trans ((ln_cons (ln_cons ln_nil)) r M ds M' h) (by decide))) (ma_cons (me_tup (ma_cons me_int (ma_cons me_int ma_nil)) (fun r M ds M' h => Nat.le_trans ((ln_cons (ln_cons ln_nil)) r M ds M' h) (by decide))) ma_nil)) (fun r M ds M' h => Nat.le_trans ((ln_cons (ln_cons ln_nil)) r M ds M' h) (by decide))) ma_nil)) (fun r M ds M' h => Nat.le_trans ((ln_cons (ln_cons ln_nil)) r M ds M' h) (by decide))) (ma_cons (me_tup (ma_cons me_int (ma_cons me_int (ma_cons me_int ma_nil))) (fun r M ds M' h => Nat.le_trans ((ln_cons (ln_cons (ln_cons ln_nil))) r M ds M' h) (by decide))) ma_nil))) (ll_cons (ll_cons (ll_cons ll_nil)))) (me_tup (ma_cons me_int (ma_cons (me_tup (ma_cons (me_tup (ma_cons me_int (ma_cons me_int ma_nil)) (fun r M ds M' h => Nat.le_trans ((ln_cons (ln_cons ln_nil)) r M ds M' h) (by decide))) ma_nil) (fun r M ds M' h => Nat.le_trans ((ln_cons ln_nil) r M ds M' h) (by decide))) ma_nil)) (fun r M ds M' h => Nat.le_trans ((ln_cons (ln_cons ln_nil)) r M ds M' h) (by decide))) (nomark _)) (me_one (me_cmp (op_eqA hr.units) s_eq (me_call C.p_part_of hr (by rfl) T.g_p_part_of T.F_p_part_of.kp T.b_p_part_of pass0 (ma_cons me_int (ma_cons (me_tup (ma_cons me_int (ma_cons (me_tup (ma_cons (me_tup (ma_cons me_int (ma_cons me_int ma_nil)) (fun r M ds M' h => Nat.le_trans ((ln_cons (ln_cons ln_nil)) r M ds M' h) (by decide))) ma_nil) (fun r M ds M' h => Nat.le_trans ((ln_cons ln_nil) r M ds M' h) (by decide))) ma_nil)) (fun r M ds M' h => Nat.le_trans ((ln_cons (ln_cons ln_nil)) r M ds M' h) (by decide))) (ma_cons (me_tup ma_nil (fun r M ds M' h => Nat.le_trans (ln_nil r M ds M' h) (by decide))) ma_nil))) (ll_cons (ll_cons (ll_cons ll_nil)))) (me_tup (ma_cons me_int (ma_cons (me_tup (ma_cons (me_tup (ma_cons me_int (ma_cons me_int ma_nil)) (fun r M ds M' h => Nat.le_trans ((ln_cons (ln_cons ln_nil)) r M ds M' h) (by decide))) ma_nil) (fun r M ds M' h => Nat.le_trans ((ln_cons ln_nil) r M ds M' h) (by decide))) ma_nil)) (fun r M ds M' h => Nat.le_trans ((ln_cons (ln_cons ln_nil)) r M ds M' h) (by decide))) (nomark _))))))))))))))
theorem law_ok (T : Tx K mg) (gx : Gx tb base T) (k : Nat) : FnOk P w K mg base CX0 (k + 2) T.a_Law T.d_Law ["_law_script"] (spM tb K 1 (gLaw (k + 1))) :=
  ok_Law T gx ⟨all_ok T gx (k + 1), ok_Lcup T gx k⟩
end
end MT

namespace MT
open PySem PySem.Spec PyProof.Rows L2 NL
def isI : D → Bool
  | .int _ => true
  | _ => false
def btw (d : D) (lo hi : Int) : Bool := match d with
  | .int i => decide (lo ≤ i) && decide (i ≤ hi)
  | _ => false
theorem g_is_integer (n : Nat) (d : D) (M : MM) (ht : tyd d = true) : G (n + 1) .p_is_integer [d] M = some (.bl (isI d), M) := by
  cases d <;> first | rfl | cases ht
theorem g_is_between (n : Nat) (d : D) (lo hi : Int) (M : MM) (ht : tyd d = true) : G (n + 2) .p_is_between [d, .int lo, .int hi] M = some (.bl (btw d lo hi), M) := by
  show mFun 3 (B_p_is_between (G (n + 1))) [d, .int lo, .int hi] M = _
  cases d with
  | int i =>
    by_cases h1 : lo ≤ i <;> by_cases h2 : i ≤ hi <;> simp [mFun, mSeq, mRet, mDrop, mIfS, mNever, mSkip, mSet, mAsg, mPar2, mPar3, tgName, tgTup, tgCons, tgNil, mVar, mC, mNil, mCons, mTup, mLst, mOp, mUn, mB, mAnd, mOr, mNot, mIf, mChain, mFn, mCall, mIs, mFor, itemsT, itemsL, mYes, mPart, mNo, mSl, startD, tyd, oCmp, oI, oLt, oLtX, oLe, oGt, oGe, oSub, oLen, oIx, isT, B_p_is_between, g_is_integer n (.int i) M rfl, isI, btw, h1, h2]
  | _ => first | rfl | cases ht
def tupN (d : D) (k : Nat) : Bool := match d with
  | .tup xs => xs.length == k
  | _ => false
theorem g_is_tuple_of (n : Nat) (d : D) (k : Nat) (M : MM) (ht : tyd d = true) (hc : ∀ xs, d ≠ .ct xs) : G (n + 1) .p_is_tuple_of [d, .int k] M = some (.bl (tupN d k), M) := by
  show mFun 2 (B_p_is_tuple_of (G n)) [d, .int k] M = _
  cases d with
  | tup xs =>
    simp [mFun, mSeq, mRet, mDrop, mIfS, mNever, mSkip, mSet, mAsg, mPar2, mPar3, tgName, tgTup, tgCons, tgNil, mVar, mC, mNil, mCons, mTup, mLst, mOp, mUn, mB, mAnd, mOr, mNot, mIf, mChain, mFn, mCall, mIs, mFor, itemsT, itemsL, mYes, mPart, mNo, mSl, startD, tyd, oCmp, oI, oLt, oLtX, oLe, oGt, oGe, oSub, oLen, oIx, isT, B_p_is_tuple_of, oEq, tupN]
    rw [Bool.eq_iff_iff]
    simp
    omega
  | ct xs => first | rfl | exact absurd rfl (hc xs)
  | _ => first | rfl | cases ht
end MT

namespace MT
open PySem PySem.Spec PyProof.Rows L2 NL
/-! ### data that is not too deep, nor too long -/
def good : Nat → D → Bool
  | _, .non => true
  | _, .bl _ => true
  | _, .int _ => true
  | _, .str x => PyData.canLay0 (.str x)
  | n + 1, .tup xs => decide (xs.length ≤ 1000) && xs.all (good n)
  | n + 1, .lst xs => decide (xs.length ≤ 1000) && xs.all (good n)
  | _, _ => false
theorem good_mono : ∀ {n m : Nat} {d : D}, good n d = true → n ≤ m → good m d = true
  | n, m, .non, _, _ => by cases m <;> rfl
  | n, m, .bl _, _, _ => by cases m <;> rfl
  | n, m, .int _, _, _ => by cases m <;> rfl
  | n, m, .str x, h, _ => by cases n <;> cases m <;> exact h
  | 0, m, .tup xs, h, _ => by cases h
  | n + 1, 0, .tup xs, h, hl => by omega
  | n + 1, m + 1, .tup xs, h, hl => by
    simp only [good, Bool.and_eq_true, List.all_eq_true] at h ⊢
    exact ⟨h.1, fun x hx => good_mono (h.2 x hx) (by omega)⟩
  | 0, m, .lst xs, h, _ => by cases h
  | n + 1, 0, .lst xs, h, hl => by omega
  | n + 1, m + 1, .lst xs, h, hl => by
    simp only [good, Bool.and_eq_true, List.all_eq_true] at h ⊢
    exact ⟨h.1, fun x hx => good_mono (h.2 x hx) (by omega)⟩
  | n, m, .mu _, h, _ => by cases n <;> cases h
  | n, m, .fz _, h, _ => by cases n <;> cases h
  | n, m, .ct _, h, _ => by cases n <;> cases h
  | n, m, .dk _ _, h, _ => by cases n <;> cases h
  | n, m, .dt _ _, h, _ => by cases n <;> cases h
  | n, m, .ins _ _ _, h, _ => by cases n <;> cases h
theorem pys_ok {n : Nat} : ∀ {xs : List D}, (∀ x ∈ xs, pure x = true ∧ (py x).canLay0 = true ∧ (py x).depth ≤ n) → pures xs = true ∧ PyData.canLayAll0 (pys xs) = true ∧ PyData.depthAll (pys xs) ≤ n
  | [], _ => ⟨rfl, by simp [pys, PyData.canLayAll0], by simp [pys, PyData.depthAll]⟩
  | x :: xs, h => by
    obtain ⟨a, b, c⟩ := h x List.mem_cons_self
    obtain ⟨d, e, f⟩ := pys_ok fun y hy => h y (List.mem_cons_of_mem _ hy)
    refine ⟨by simp [pures, a, d], by simp [pys, PyData.canLayAll0, b, e], ?_⟩
    simp only [pys, PyData.depthAll]
    omega
theorem good_ok : ∀ {n : Nat} {d : D}, good n d = true → pure d = true ∧ (py d).canLay0 = true ∧ (py d).depth ≤ n
  | n, .non, _ => ⟨rfl, by simp [py, PyData.canLay0], by simp [py, PyData.depth]⟩
  | n, .bl _, _ => ⟨rfl, by simp [py, PyData.canLay0], by simp [py, PyData.depth]⟩
  | n, .int _, _ => ⟨rfl, by simp [py, PyData.canLay0], by simp [py, PyData.depth]⟩
  | n, .str x, h => ⟨rfl, by cases n <;> exact h, by simp [py, PyData.depth]⟩
  | 0, .tup xs, h => by cases h
  | n + 1, .tup xs, h => by
    simp only [good, Bool.and_eq_true, List.all_eq_true] at h
    obtain ⟨a, b, c⟩ := pys_ok fun x hx => good_ok (h.2 x hx)
    exact ⟨a, by simpa [py, PyData.canLay0] using b, by simp only [py, PyData.depth]; omega⟩
  | 0, .lst xs, h => by cases h
  | n + 1, .lst xs, h => by
    simp only [good, Bool.and_eq_true, List.all_eq_true] at h
    obtain ⟨a, b, c⟩ := pys_ok fun x hx => good_ok (h.2 x hx)
    exact ⟨a, by simpa [py, PyData.canLay0] using b, by simp only [py, PyData.depth]; omega⟩
  | n, .mu _, h => by cases n <;> cases h
  | n, .fz _, h => by cases n <;> cases h
  | n, .ct _, h => by cases n <;> cases h
  | n, .dk _ _, h => by cases n <;> cases h
  | n, .dt _ _, h => by cases n <;> cases h
  | n, .ins _ _ _, h => by cases n <;> cases h
theorem okD_of {n : Nat} {d : D} (h : good n d = true) (hn : n ≤ 64) : okD d = true := by
  obtain ⟨a, b, c⟩ := good_ok h
  unfold okD SeqAt.shaped
  rw [a, b, decide_eq_true (by omega)]
  rfl
theorem good_ty {n : Nat} {d : D} (h : good n d = true) : tyd d = true := by
  cases d <;> first | rfl | (cases n <;> cases h)
theorem good_ct {n : Nat} {d : D} (h : good n d = true) : ∀ xs, d ≠ .ct xs := fun xs e => by
  subst e
  cases n <;> cases h
theorem good_tup {n : Nat} {xs : List D} (h : good n (.tup xs) = true) : ∃ k, n = k + 1 ∧ xs.length ≤ 1000 ∧ ∀ x ∈ xs, good k x = true := by
  cases n with
  | zero => cases h
  | succ k =>
    simp only [good, Bool.and_eq_true, List.all_eq_true, decide_eq_true_eq] at h
    exact ⟨k, rfl, h.1, h.2⟩
/-! ### comprehensions whose parts change nothing -/
theorem lcD_filter {tg : FT} {t : FB} {e : FE} {r : En} {M : MM} (p : D → Bool) (f : D → D) : ∀ {xs : List D}, (∀ d ∈ xs, ∃ r1, tg d r = some r1 ∧ t r1 M = some (p d, M) ∧ (p d = true → e r1 M = some (f d, M))) → lcD tg t e r xs M = some ((xs.filter p).map f, M)
  | [], _ => rfl
  | x :: xs, h => by
    obtain ⟨r1, h1, h2, h3⟩ := h x List.mem_cons_self
    have ih := lcD_filter p f (xs := xs) fun d hd => h d (List.mem_cons_of_mem _ hd)
    unfold lcD
    rw [h1]
    simp only []
    rw [h2]
    cases hp : p x with
    | true =>
      simp only []
      rw [h3 hp]
      simp only []
      rw [ih]
      simp [List.filter_cons, hp]
    | false =>
      simp only []
      rw [ih]
      simp [List.filter_cons, hp]
theorem lcD_map {tg : FT} {e : FE} {r : En} {M : MM} (f : D → D) {xs : List D} (h : ∀ d ∈ xs, ∃ r1, tg d r = some r1 ∧ e r1 M = some (f d, M)) : lcD tg mYes e r xs M = some (xs.map f, M) := by
  rw [lcD_filter (fun _ => true) f fun d hd => by
    obtain ⟨r1, h1, h2⟩ := h d hd
    exact ⟨r1, h1, rfl, fun _ => h2⟩]
  rw [List.filter_eq_self.mpr fun _ _ => rfl]
theorem boolsOf_map (p : D → Bool) : ∀ xs : List D, boolsOf (xs.map fun d => .bl (p d)) = some (xs.map p)
  | [] => rfl
  | x :: xs => by
    show (match boolsOf (xs.map fun d => .bl (p d)) with | some bs => some (p x :: bs) | none => none) = _
    rw [boolsOf_map p xs]
    rfl
/-! ### == of data of ints -/
mutual
def jd : D → Bool
  | .int _ => true
  | .tup xs => jds xs
  | .lst xs => jds xs
  | _ => false
def jds : List D → Bool
  | [] => true
  | d :: ds => jd d && jds ds
end
mutual
theorem eqv_j : ∀ {d e : D}, jd d = true → jd e = true → (oEqv d e = true ↔ d = e)
  | .int i, .int j, _, _ => by
    show ((i == j) = true ↔ _)
    rw [beq_iff_eq]
    exact ⟨fun h => by rw [h], fun h => by injection h⟩
  | .int i, .tup ys, _, _ => ⟨fun h => (by cases h), fun h => (by cases h)⟩
  | .int i, .lst ys, _, _ => ⟨fun h => (by cases h), fun h => (by cases h)⟩
  | .tup xs, .int j, _, _ => ⟨fun h => (by cases h), fun h => (by cases h)⟩
  | .tup xs, .lst ys, _, _ => ⟨fun h => (by cases h), fun h => (by cases h)⟩
  | .lst xs, .int j, _, _ => ⟨fun h => (by cases h), fun h => (by cases h)⟩
  | .lst xs, .tup ys, _, _ => ⟨fun h => (by cases h), fun h => (by cases h)⟩
  | .tup xs, .tup ys, h1, h2 => by
    show (PyData.eqvAll (pys xs) (pys ys) = true ↔ _)
    rw [eqv_js h1 h2]
    exact ⟨fun h => by rw [h], fun h => by injection h⟩
  | .lst xs, .lst ys, h1, h2 => by
    show (PyData.eqvAll (pys xs) (pys ys) = true ↔ _)
    rw [eqv_js h1 h2]
    exact ⟨fun h => by rw [h], fun h => by injection h⟩
theorem eqv_js : ∀ {xs ys : List D}, jds xs = true → jds ys = true → (PyData.eqvAll (pys xs) (pys ys) = true ↔ xs = ys)
  | [], [], _, _ => ⟨fun _ => rfl, fun _ => rfl⟩
  | [], y :: ys, _, _ => ⟨fun h => (by cases h), fun h => (by cases h)⟩
  | x :: xs, [], _, _ => ⟨fun h => (by cases h), fun h => (by cases h)⟩
  | x :: xs, y :: ys, h1, h2 => by
    obtain ⟨a1, a2⟩ := Bool.and_eq_true_iff.mp h1
    obtain ⟨b1, b2⟩ := Bool.and_eq_true_iff.mp h2
    show ((PyData.eqv (py x) (py y) && PyData.eqvAll (pys xs) (pys ys)) = true ↔ _)
    rw [Bool.and_eq_true_iff, eqv_js a2 b2]
    have := eqv_j a1 b1
    unfold oEqv at this
    rw [this]
    exact ⟨fun h => by rw [h.1, h.2], fun h => List.cons.inj h⟩
end
theorem jds_map {α : Type} {f : α → D} (h : ∀ a, jd (f a) = true) : ∀ xs : List α, jds (xs.map f) = true
  | [] => rfl
  | x :: xs => by
    show (jd (f x) && jds (xs.map f)) = true
    rw [h, jds_map h xs]
    rfl
theorem oEq_j {d e : D} {M : MM} {n m : Nat} (h1 : jd d = true) (h2 : jd e = true) (g1 : good n d = true) (g2 : good m e = true) (hn : n ≤ 64) (hm : m ≤ 64) : ∃ b, oEq M d e = some (.bl b) ∧ (b = true ↔ d = e) := by
  have o1 := okD_of g1 hn
  have o2 := okD_of g2 hm
  have := eqv_j h1 h2
  cases d with
  | int i =>
    cases e with
    | int j => exact ⟨i == j, rfl, this⟩
    | tup ys => exact ⟨oEqv (.int i) (.tup ys), by simp only [oEq, o1, o2, Bool.and_self, if_true], this⟩
    | lst ys => exact ⟨oEqv (.int i) (.lst ys), by simp only [oEq, o1, o2, Bool.and_self, if_true], this⟩
    | _ => cases h2
  | tup xs => exact ⟨oEqv (.tup xs) e, by simp only [oEq, o1, o2, Bool.and_self, if_true], this⟩
  | lst xs => exact ⟨oEqv (.lst xs) e, by simp only [oEq, o1, o2, Bool.and_self, if_true], this⟩
  | _ => cases h1
end MT

namespace MT
open PySem PySem.Spec PyProof.Rows L2 NL
theorem at0 {α : Type} (x : α) (xs : List α) : atI (x :: xs) 0 = some x := atI_nat (j := 0) rfl
theorem at1 {α : Type} (x y : α) (xs : List α) : atI (x :: y :: xs) 1 = some y := atI_nat (j := 1) rfl
theorem at2 {α : Type} (x y z : α) (xs : List α) : atI (x :: y :: z :: xs) 2 = some z := atI_nat (j := 2) rfl
def namedB (i : Int) : Prop := 1 ≤ i ∧ i ≤ 3
/-! ### what is rolled -/
def Cup (R M : MM) : Prop := ∃ a b : Int, M = .lst [.int a, .int b] :: R ∧ 0 ≤ a ∧ 0 ≤ b ∧ b < 1099511627776
theorem g_roll (n : Nat) {R M : MM} (h : Cup R M) (k : Int) (h1 : 1 ≤ k) (h2 : k < 1000000) : ∃ r M', G (n + 1) .Lroll [.mu 0, .int k] M = some (.int r, M') ∧ 0 ≤ r ∧ r < k ∧ Cup R M' := by
  obtain ⟨a, b, rfl, ha, hb, hb2⟩ := h
  have e0 : atI [D.int a, D.int b] 0 = some (.int a) := at0 _ _
  have k0 : (0 : Int) < k := by omega
  have k1 : k < 1073741824 := by omega
  by_cases h : 0 < a
  · refine ⟨a % k, .lst [.int (a / k), .int b] :: R, ?_, Int.emod_nonneg _ (by omega), Int.emod_lt_of_pos _ k0, _, _, rfl, Int.ediv_nonneg ha (by omega), hb, hb2⟩
    show mFun 4 (B_Lroll (G n)) [.mu 0, .int k] (.lst [.int a, .int b] :: R) = _
    simp [mFun, mSeq, mRet, mDrop, mIfS, mNever, mSkip, mSet, mAsg, mPar2, mPar3, tgName, tgTup, tgCons, tgNil, mVar, mC, mNil, mCons, mTup, mLst, mOp, mUn, mB, mAnd, mOr, mNot, mIf, mChain, mFn, mCall, mIs, mFor, itemsT, itemsL, mYes, mPart, mNo, mSl, startD, tyd, oCmp, oI, oLt, oLtX, oLe, oGt, oGe, oSub, oLen, oIx, isT, B_Lroll, e0, h, oMod, oInt, k0, k1, oDiv, mStore, ixN]
  · let b' := (b * 30983 + 7933) % 2147483563
    have hb0 : 0 ≤ b' := Int.emod_nonneg _ (by decide)
    have hb1 : b' < 2147483563 := Int.emod_lt_of_pos _ (by decide)
    refine ⟨(b' * (b' + 197) % 2147483587 / 773) % k, .lst [.int a, .int b'] :: R, ?_, Int.emod_nonneg _ (by omega), Int.emod_lt_of_pos _ k0, _, _, rfl, ha, hb0, by omega⟩
    show mFun 4 (B_Lroll (G n)) [.mu 0, .int k] (.lst [.int a, .int b] :: R) = _
    have e1 : atI [D.int a, D.int b] 1 = some (.int b) := at1 _ _ _
    have e2 : atI [D.int a, D.int b'] 1 = some (.int b') := at1 _ _ _
    have m1 : b'.natAbs < 18446744073709551616 := by omega
    have eb : (b * 30983 + 7933) % 2147483563 = b' := rfl
    simp only [mFun, B_Lroll, mSeq, mIfS, mB, mOp, mVar, mC, mSkip, mStore, mFn, mCons, mNil, mAsg, tgName, mRet, startD, List.map_cons, List.map_nil, List.length_cons, List.length_nil, Nat.zero_add, Nat.reduceSub, Nat.reduceAdd, List.replicate_succ, List.replicate_zero, List.cons_append, List.nil_append,
      List.getElem?_cons_zero, List.getElem?_cons_succ, List.set_cons_zero, List.set_cons_succ, oIx, Option.bind_some, e0, e1, oGt, oCmp, oI, decide_eq_false h, oInt, oAdd, oMul, oMod, eb]
    rw [if_pos (show b.natAbs < 18446744073709551616 ∨ (30983 : Int).natAbs < 18446744073709551616 from Or.inr (by decide))]
    simp only [eb, if_true, show ((0 : Int) < 2147483563) = True from eq_true (by decide)]
    have ix : ixN [D.int a, D.int b].length 1 = some 1 := rfl
    simp only [ix, List.set_cons_succ, List.set_cons_zero, List.getElem?_cons_zero, Option.bind_some, e2, eb]
    rw [if_pos (Or.inl m1)]
    simp only [if_true, show ((0 : Int) < 2147483587) = True from eq_true (by decide), oDiv, oI, List.getElem?_cons_zero, List.getElem?_cons_succ]
    rw [if_pos (show (0 : Int) < 773 ∧ (773 : Int) < 1073741824 by decide)]
    simp only [k0, if_true]
theorem cup_roll (n : Nat) {R M : MM} (h : Cup R M) (k : Nat) (h1 : 1 ≤ k) (h2 : k < 1000000) : ∃ (r : Nat) (M' : MM), G (n + 1) .Lroll [.mu 0, .int k] M = some (.int r, M') ∧ r < k ∧ Cup R M' := by
  obtain ⟨r, M', e, r0, r1, c⟩ := g_roll n h k (by omega) (by omega)
  refine ⟨r.toNat, M', ?_, by omega, c⟩
  rw [e, Int.toNat_of_nonneg r0]
theorem cup_some (n : Nat) {R M : MM} (h : Cup R M) (xs : List D) (h1 : xs ≠ []) (h2 : xs.length < 1000000) : ∃ d M', G (n + 2) .Lsome [.mu 0, .lst xs] M = some (d, M') ∧ d ∈ xs ∧ Cup R M' := by
  have hl : 1 ≤ xs.length := by
    cases xs with
    | nil => exact absurd rfl h1
    | cons x xs => simp
  obtain ⟨r, M', e, r1, c⟩ := cup_roll n h xs.length hl h2
  refine ⟨xs[r], M', ?_, List.getElem_mem r1, c⟩
  show mFun 2 (B_Lsome (G (n + 1))) [.mu 0, .lst xs] M = _
  have e1 : atI xs (r : Int) = some xs[r] := atI_nat (List.getElem?_eq_getElem r1)
  simp [mFun, mSeq, mRet, mDrop, mIfS, mNever, mSkip, mSet, mAsg, mPar2, mPar3, tgName, tgTup, tgCons, tgNil, mVar, mC, mNil, mCons, mTup, mLst, mOp, mUn, mB, mAnd, mOr, mNot, mIf, mChain, mFn, mCall, mIs, mFor, itemsT, itemsL, mYes, mPart, mNo, mSl, startD, tyd, oCmp, oI, oLt, oLtX, oLe, oGt, oGe, oSub, oLen, oIx, isT, B_Lsome, e, e1]
theorem cup_named (n : Nat) {R M : MM} (h : Cup R M) : ∃ (k : Int) (M' : MM), G (n + 3) .Lnamed [.mu 0] M = some (.int k, M') ∧ namedB k ∧ Cup R M' := by
  obtain ⟨d, M', e, hd, c⟩ := cup_some n h [.int 1, .int 1, .int 2, .int 2, .int 2, .int 2, .int 2, .int 3] (by simp) (by simp)
  have : ∃ k : Int, d = .int k ∧ namedB k := by
    simp only [List.mem_cons, List.not_mem_nil, or_false] at hd
    rcases hd with rfl | rfl | rfl | rfl | rfl | rfl | rfl | rfl
    all_goals exact ⟨_, rfl, by decide, by decide⟩
  obtain ⟨k, rfl, hk⟩ := this
  refine ⟨k, M', ?_, hk, c⟩
  show mFun 1 (B_Lnamed (G (n + 2))) [.mu 0] M = _
  simp [mFun, mSeq, mRet, mDrop, mIfS, mNever, mSkip, mSet, mAsg, mPar2, mPar3, tgName, tgTup, tgCons, tgNil, mVar, mC, mNil, mCons, mTup, mLst, mOp, mUn, mB, mAnd, mOr, mNot, mIf, mChain, mFn, mCall, mIs, mFor, itemsT, itemsL, mYes, mPart, mNo, mSl, startD, tyd, oCmp, oI, oLt, oLtX, oLe, oGt, oGe, oSub, oLen, oIx, isT, B_Lnamed, e]
end MT

namespace MT
open PySem PySem.Spec PyProof.Rows L2 NL
/-! ### pairs -/
def prB (n : Int) : D → Bool
  | .tup [a, b] => match a with
    | .int i => btw (.int i) 0 (n - 1) && btw b (i + 1) (n - 1)
    | _ => false
  | _ => false
theorem g_is_pair_of {k : Nat} (n : Nat) (m : Int) (d : D) (M : MM) (hg : good k d = true) : G (n + 3) .p_is_pair_of [.int m, d] M = some (.bl (prB m d), M) := by
  show mFun 4 (B_p_is_pair_of (G (n + 2))) [.int m, d] M = _
  have t2 : G (n + 2) .p_is_tuple_of [d, .int 2] M = some (.bl (tupN d 2), M) := g_is_tuple_of (n + 1) d 2 M (good_ty hg) (good_ct hg)
  cases d with
  | tup xs =>
    obtain ⟨j, hj, hl, hx⟩ := good_tup hg
    match xs, hx with
    | [], _ => simp [mFun, mSeq, mRet, mDrop, mIfS, mNever, mSkip, mSet, mAsg, mPar2, mPar3, tgName, tgTup, tgCons, tgNil, mVar, mC, mNil, mCons, mTup, mLst, mOp, mUn, mB, mAnd, mOr, mNot, mIf, mChain, mFn, mCall, mIs, mFor, itemsT, itemsL, mYes, mPart, mNo, mSl, startD, tyd, oCmp, oI, oLt, oLtX, oLe, oGt, oGe, oSub, oLen, oIx, isT, B_p_is_pair_of, t2, tupN, prB]
    | [x], _ => simp [mFun, mSeq, mRet, mDrop, mIfS, mNever, mSkip, mSet, mAsg, mPar2, mPar3, tgName, tgTup, tgCons, tgNil, mVar, mC, mNil, mCons, mTup, mLst, mOp, mUn, mB, mAnd, mOr, mNot, mIf, mChain, mFn, mCall, mIs, mFor, itemsT, itemsL, mYes, mPart, mNo, mSl, startD, tyd, oCmp, oI, oLt, oLtX, oLe, oGt, oGe, oSub, oLen, oIx, isT, B_p_is_pair_of, t2, tupN, prB]
    | [x, y], hx =>
      have b1 := g_is_between n x 0 (m - 1) M (good_ty (hx x (by simp)))
      have gy := good_ty (hx y (by simp))
      cases x with
      | int i =>
        have b2 := g_is_between n y (i + 1) (m - 1) M gy
        cases h : btw (.int i) 0 (m - 1) <;> simp [mFun, mSeq, mRet, mDrop, mIfS, mNever, mSkip, mSet, mAsg, mPar2, mPar3, tgName, tgTup, tgCons, tgNil, mVar, mC, mNil, mCons, mTup, mLst, mOp, mUn, mB, mAnd, mOr, mNot, mIf, mChain, mFn, mCall, mIs, mFor, itemsT, itemsL, mYes, mPart, mNo, mSl, startD, tyd, oCmp, oI, oLt, oLtX, oLe, oGt, oGe, oSub, oLen, oIx, isT, B_p_is_pair_of, t2, tupN, prB, b1, b2, h, oAdd]
      | _ =>
        simp only [btw] at b1
        simp [mFun, mSeq, mRet, mDrop, mIfS, mNever, mSkip, mSet, mAsg, mPar2, mPar3, tgName, tgTup, tgCons, tgNil, mVar, mC, mNil, mCons, mTup, mLst, mOp, mUn, mB, mAnd, mOr, mNot, mIf, mChain, mFn, mCall, mIs, mFor, itemsT, itemsL, mYes, mPart, mNo, mSl, startD, tyd, oCmp, oI, oLt, oLtX, oLe, oGt, oGe, oSub, oLen, oIx, isT, B_p_is_pair_of, t2, tupN, prB, b1]
    | x :: y :: z :: r, _ => simp [mFun, mSeq, mRet, mDrop, mIfS, mNever, mSkip, mSet, mAsg, mPar2, mPar3, tgName, tgTup, tgCons, tgNil, mVar, mC, mNil, mCons, mTup, mLst, mOp, mUn, mB, mAnd, mOr, mNot, mIf, mChain, mFn, mCall, mIs, mFor, itemsT, itemsL, mYes, mPart, mNo, mSl, startD, tyd, oCmp, oI, oLt, oLtX, oLe, oGt, oGe, oSub, oLen, oIx, isT, B_p_is_pair_of, t2, tupN, prB]
  | _ => simp [mFun, mSeq, mRet, mDrop, mIfS, mNever, mSkip, mSet, mAsg, mPar2, mPar3, tgName, tgTup, tgCons, tgNil, mVar, mC, mNil, mCons, mTup, mLst, mOp, mUn, mB, mAnd, mOr, mNot, mIf, mChain, mFn, mCall, mIs, mFor, itemsT, itemsL, mYes, mPart, mNo, mSl, startD, tyd, oCmp, oI, oLt, oLtX, oLe, oGt, oGe, oSub, oLen, oIx, isT, B_p_is_pair_of, t2, tupN, prB]
/-- pairs of n people -/
def okP (n : Int) (p : Int × Int) : Prop := 0 ≤ p.1 ∧ p.1 < p.2 ∧ p.2 < n
theorem prB_pD {n : Int} {p : Int × Int} : prB n (pD p) = true ↔ okP n p := by
  obtain ⟨i, j⟩ := p
  show (btw (.int i) 0 (n - 1) && btw (.int j) (i + 1) (n - 1)) = true ↔ _
  simp only [btw, Bool.and_eq_true, decide_eq_true_eq, okP]
  omega
theorem prB_is {n : Int} {d : D} (h : prB n d = true) : ∃ p, d = pD p ∧ okP n p := by
  unfold prB at h
  split at h
  · rename_i a b
    split at h
    · rename_i i
      cases b with
      | int j => exact ⟨(i, j), rfl, prB_pD.mp h⟩
      | _ => simp [btw] at h
    · cases h
  · cases h
theorem pairsOf_map : ∀ ps : List (Int × Int), pairsOf (ps.map pD) = some ps
  | [] => rfl
  | p :: ps => by
    show (match pairsOf (ps.map pD) with | some qs => some ((p.1, p.2) :: qs) | none => none) = _
    rw [pairsOf_map ps]
theorem prs_of {n : Int} : ∀ {xs : List D}, (∀ x ∈ xs, prB n x = true) → ∃ ps : List (Int × Int), xs = ps.map pD ∧ ∀ p ∈ ps, okP n p
  | [], _ => ⟨[], rfl, fun _ h => absurd h (by simp)⟩
  | x :: xs, h => by
    obtain ⟨p, e, hp⟩ := prB_is (h x List.mem_cons_self)
    obtain ⟨ps, e2, hps⟩ := prs_of fun y hy => h y (List.mem_cons_of_mem _ hy)
    refine ⟨p :: ps, by rw [e, e2]; rfl, fun q hq => ?_⟩
    rcases List.mem_cons.mp hq with z | z
    · rw [z]; exact hp
    · exact hps q z
theorem pD_inj {p q : Int × Int} (h : pD p = pD q) : p = q := by
  obtain ⟨a, b⟩ := p
  obtain ⟨c, d⟩ := q
  unfold pD at h
  injection h with h
  injection h with h1 h2
  injection h2 with h2 _
  injection h1 with h1
  injection h2 with h2
  exact Prod.ext h1 h2
theorem map_pD_inj : ∀ {ps qs : List (Int × Int)}, ps.map pD = qs.map pD → ps = qs
  | [], [], _ => rfl
  | [], _ :: _, h => by simp at h
  | _ :: _, [], h => by simp at h
  | p :: ps, q :: qs, h => by
    obtain ⟨h1, h2⟩ := List.cons.inj (show pD p :: ps.map pD = pD q :: qs.map pD from h)
    rw [pD_inj h1, map_pD_inj h2]
theorem jd_pD (p : Int × Int) : jd (pD p) = true := rfl
theorem good_pD (k : Nat) (p : Int × Int) : good (k + 1) (pD p) = true := by
  simp only [pD, good, List.length_cons, List.length_nil, List.all_cons, List.all_nil, Bool.and_true]
  cases k <;> rfl
theorem good_prs {ps : List (Int × Int)} (h : ps.length ≤ 1000) : good 2 (.tup (ps.map pD)) = true ∧ good 2 (.lst (ps.map pD)) = true := by
  simp only [good, Bool.and_eq_true, List.all_eq_true, decide_eq_true_eq, List.length_map]
  have : ∀ x ∈ ps.map pD, good 1 x = true := fun x hx => by
    obtain ⟨p, _, rfl⟩ := List.mem_map.mp hx
    exact good_pD 0 p
  exact ⟨⟨h, this⟩, h, this⟩
/-! ### in order -/
def ordB (ps : List (Int × Int)) : Bool := decide (ps = sortP ps)
theorem ordB_iff {ps : List (Int × Int)} : ordB ps = true ↔ ps.Pairwise ltP := by
  unfold ordB
  rw [decide_eq_true_iff]
  constructor
  · intro h
    rw [h]
    exact sorted_sortP ps
  · intro h
    exact (sorted_one (sorted_sortP ps) h fun x => mem_sortP).symm
def ltO : Option (Int × Int) → Option (Int × Int) → Bool
  | some p, some q => decide (ltP p q)
  | _, _ => false
def stepB (ps : List (Int × Int)) : D → Bool
  | .int i => ltO ps[i.toNat]? ps[i.toNat + 1]?
  | _ => false
theorem stepB_at {ps : List (Int × Int)} {k : Nat} (h : k + 1 < ps.length) : stepB ps (.int (0 + (k : Nat))) = decide (ltP ps[k] ps[k + 1]) := by
  have e : ((0 : Int) + (k : Nat)).toNat = k := by omega
  show ltO ps[((0 : Int) + (k : Nat)).toNat]? ps[((0 : Int) + (k : Nat)).toNat + 1]? = _
  rw [e, List.getElem?_eq_getElem (by omega), List.getElem?_eq_getElem h]
  rfl
theorem pairLt_ltP (p q : Int × Int) : HX.pairLt p.1 p.2 q.1 q.2 = decide (ltP p q) := by
  unfold HX.pairLt
  by_cases h : p.1 = q.1
  · rw [if_pos h]
    exact decide_eq_decide.mpr (by unfold ltP; omega)
  · rw [if_neg h]
    exact decide_eq_decide.mpr (by unfold ltP; omega)
theorem adj_all {ps : List (Int × Int)} (h : ∀ k (h : k + 1 < ps.length), ltP ps[k] ps[k + 1]) : ∀ d i (h : i + 1 + d < ps.length), ltP ps[i] ps[i + 1 + d]
  | 0, i, hi => h i hi
  | d + 1, i, hi => ltP_trans (adj_all h d i (by omega)) (h (i + 1 + d) hi)
theorem asc_iff {ps : List (Int × Int)} : ((rangeD 0 (ps.length - 1)).all (stepB ps)) = ordB ps := by
  rw [Bool.eq_iff_iff, ordB_iff, List.all_eq_true]
  constructor
  · intro h
    refine List.pairwise_iff_getElem.mpr fun i j hi hj hij => ?_
    have := adj_all (ps := ps) (fun k hk => by
      have := h (.int (0 + (k : Nat))) (List.mem_map.mpr ⟨k, List.mem_range.mpr (by omega), rfl⟩)
      rw [stepB_at hk] at this
      exact of_decide_eq_true this) (j - i - 1) i (by omega)
    have e : i + 1 + (j - i - 1) = j := by omega
    simp only [e] at this
    exact this
  · intro h x hx
    obtain ⟨k, hk, rfl⟩ := List.mem_map.mp hx
    have hk := List.mem_range.mp hk
    rw [stepB_at (by omega)]
    exact decide_eq_true (List.pairwise_iff_getElem.mp h k (k + 1) (by omega) (by omega) (by omega))
theorem g_is_ascending (n : Nat) (ps : List (Int × Int)) (M : MM) (hl : ps.length ≤ 1000) : G (n + 1) .p_is_ascending [.tup (ps.map pD)] M = some (.bl (ordB ps), M) := by
  show mFun 2 (B_p_is_ascending (G n)) [.tup (ps.map pD)] M = _
  have r1 : rng1 [.int ((ps.length : Int) - 1)] = some (0, (ps.length : Int) - 1) := by
    show (if ((ps.length : Int) - 1).natAbs ≤ 1000000 then some ((0 : Int), (ps.length : Int) - 1) else none) = _
    rw [if_pos (by omega)]
  have e1 : ((ps.length : Int) - 1 - 0).toNat = ps.length - 1 := by omega
  have h3 : lcD (tgName 1) mYes (mOp oLtX (mOp oIx (mVar 0) (mVar 1)) (mOp oIx (mVar 0) (mOp oAdd (mVar 1) (mC (.int 1))))) (wipeD [some (D.tup (ps.map pD)), none] [1]) (rangeD 0 (ps.length - 1)) M = some ((rangeD 0 (ps.length - 1)).map fun d => .bl (stepB ps d), M) := by
    refine lcD_map _ fun d hd => ⟨_, rfl, ?_⟩
    obtain ⟨k, hk, rfl⟩ := List.mem_map.mp hd
    have hk := List.mem_range.mp hk
    have a1 : atI (ps.map pD) ((0 : Int) + (k : Nat)) = some (pD ps[k]) := by
      have e : (0 : Int) + (k : Nat) = (k : Nat) := by omega
      rw [e]
      exact atI_nat (by rw [List.getElem?_map, List.getElem?_eq_getElem (by omega)]; rfl)
    have a2 : atI (ps.map pD) ((0 : Int) + (k : Nat) + 1) = some (pD ps[k + 1]) := by
      have e : (0 : Int) + (k : Nat) + 1 = ((k + 1 : Nat) : Int) := by omega
      rw [e]
      exact atI_nat (by rw [List.getElem?_map, List.getElem?_eq_getElem (by omega)]; rfl)
    rw [stepB_at (by omega), ← pairLt_ltP]
    have o : oLtX M (pD ps[k]) (pD ps[k + 1]) = some (.bl (HX.pairLt ps[k].1 ps[k].2 ps[k + 1].1 ps[k + 1].2)) := rfl
    simp only [mOp, mVar, mC, wipeD, tgName, List.set_cons_succ, List.set_cons_zero, List.getElem?_cons_zero, List.getElem?_cons_succ, Option.bind_some, oIx, oAdd, a1, a2, o]
  have e2 : ((rangeD 0 (ps.length - 1)).map fun d => D.bl (stepB ps d)) = (rangeD 0 (ps.length - 1)).map fun d => .bl (stepB ps d) := rfl
  simp only [mFun, B_p_is_ascending, mRet, mFn, mCons, mNil, mLcR, mOp, mVar, mC, startD, List.map_cons, List.map_nil, List.length_cons, List.length_nil, Nat.zero_add, Nat.reduceSub, Nat.reduceAdd, List.replicate_succ, List.replicate_zero, List.cons_append, List.nil_append,
    List.getElem?_cons_zero, Option.bind_some, oLen, oSub, oI, List.length_map, r1, e1]
  rw [if_pos (by omega)]
  simp only [h3, oAll, boolsOf_map, List.all_map]
  have := asc_iff (ps := ps)
  simp only [Function.comp_def, id]
  rw [← this]
end MT

namespace MT
open PySem PySem.Spec PyProof.Rows L2 NL
/-! ### ties, companies -/
def ordD (xs : List D) : Bool := match pairsOf xs with
  | some ps => ordB ps
  | none => false
theorem ordD_map (ps : List (Int × Int)) : ordD (ps.map pD) = ordB ps := by
  unfold ordD
  rw [pairsOf_map]
def tiesB (n : Int) : D → Bool
  | .tup xs => xs.all (prB n) && ordD xs
  | _ => false
def coB (named : Int) : D → Bool
  | .tup [p, t] => match p with
    | .int n => btw (.int n) named 9 && tiesB n t
    | _ => false
  | _ => false
theorem g_are_ties_of {k : Nat} (n : Nat) (m : Int) (d : D) (M : MM) (hg : good k d = true) : G (n + 4) .p_are_ties_of [.int m, d] M = some (.bl (tiesB m d), M) := by
  show mFun 3 (B_p_are_ties_of (G (n + 3))) [.int m, d] M = _
  cases d with
  | tup xs =>
    obtain ⟨j, hj, hl, hx⟩ := good_tup hg
    have h3 : lcD (tgName 2) mYes (mCall (G (n + 3) Fid.p_is_pair_of) (mCons (mVar 0) (mCons (mVar 2) mNil))) (wipeD [some (D.int m), some (.tup xs), none] [2]) xs M = some (xs.map fun d => .bl (prB m d), M) :=
      lcD_map _ fun d hd => ⟨_, rfl, g_is_pair_of n m d M (hx d hd)⟩
    cases h : xs.all (prB m) with
    | false => simp [mFun, mSeq, mRet, mDrop, mIfS, mNever, mSkip, mSet, mAsg, mPar2, mPar3, tgName, tgTup, tgCons, tgNil, mVar, mC, mNil, mCons, mTup, mLst, mOp, mUn, mB, mAnd, mOr, mNot, mIf, mChain, mFn, mCall, mIs, mFor, itemsT, itemsL, mYes, mPart, mNo, mSl, startD, tyd, oCmp, oI, oLt, oLtX, oLe, oGt, oGe, oSub, oLen, oIx, isT, B_p_are_ties_of, mLc, h3, hl, oAll, boolsOf_map, tiesB, h, List.all_map, Function.comp_def]
    | true =>
      obtain ⟨ps, hxs, hp⟩ := prs_of (List.all_eq_true.mp h)
      have g1 : G (n + 3) .p_is_ascending [.tup xs] M = some (.bl (ordB ps), M) := by
        rw [hxs]
        exact g_is_ascending (n + 2) ps M (by rw [hxs] at hl; simpa using hl)
      have e1 : ordD xs = ordB ps := by rw [hxs]; exact ordD_map ps
      simp [mFun, mSeq, mRet, mDrop, mIfS, mNever, mSkip, mSet, mAsg, mPar2, mPar3, tgName, tgTup, tgCons, tgNil, mVar, mC, mNil, mCons, mTup, mLst, mOp, mUn, mB, mAnd, mOr, mNot, mIf, mChain, mFn, mCall, mIs, mFor, itemsT, itemsL, mYes, mPart, mNo, mSl, startD, tyd, oCmp, oI, oLt, oLtX, oLe, oGt, oGe, oSub, oLen, oIx, isT, B_p_are_ties_of, mLc, h3, hl, oAll, boolsOf_map, tiesB, h, List.all_map, Function.comp_def, e1, g1]
  | _ => first | rfl | (cases k <;> cases hg)
theorem g_is_company_of {k : Nat} (n : Nat) (named : Int) (d : D) (M : MM) (hg : good k d = true) : G (n + 5) .p_is_company_of [.int named, d] M = some (.bl (coB named d), M) := by
  show mFun 4 (B_p_is_company_of (G (n + 4))) [.int named, d] M = _
  have t2 : G (n + 4) .p_is_tuple_of [d, .int 2] M = some (.bl (tupN d 2), M) := g_is_tuple_of (n + 3) d 2 M (good_ty hg) (good_ct hg)
  cases d with
  | tup xs =>
    obtain ⟨j, hj, hl, hx⟩ := good_tup hg
    match xs, hx with
    | [], _ => simp [mFun, mSeq, mRet, mDrop, mIfS, mNever, mSkip, mSet, mAsg, mPar2, mPar3, tgName, tgTup, tgCons, tgNil, mVar, mC, mNil, mCons, mTup, mLst, mOp, mUn, mB, mAnd, mOr, mNot, mIf, mChain, mFn, mCall, mIs, mFor, itemsT, itemsL, mYes, mPart, mNo, mSl, startD, tyd, oCmp, oI, oLt, oLtX, oLe, oGt, oGe, oSub, oLen, oIx, isT, B_p_is_company_of, t2, tupN, coB]
    | [x], _ => simp [mFun, mSeq, mRet, mDrop, mIfS, mNever, mSkip, mSet, mAsg, mPar2, mPar3, tgName, tgTup, tgCons, tgNil, mVar, mC, mNil, mCons, mTup, mLst, mOp, mUn, mB, mAnd, mOr, mNot, mIf, mChain, mFn, mCall, mIs, mFor, itemsT, itemsL, mYes, mPart, mNo, mSl, startD, tyd, oCmp, oI, oLt, oLtX, oLe, oGt, oGe, oSub, oLen, oIx, isT, B_p_is_company_of, t2, tupN, coB]
    | [x, y], hx =>
      have b1 := g_is_between (n + 2) x named 9 M (good_ty (hx x (by simp)))
      cases x with
      | int i =>
        have b2 := g_are_ties_of n i y M (hx y (by simp))
        cases h : btw (.int i) named 9 <;> simp [mFun, mSeq, mRet, mDrop, mIfS, mNever, mSkip, mSet, mAsg, mPar2, mPar3, tgName, tgTup, tgCons, tgNil, mVar, mC, mNil, mCons, mTup, mLst, mOp, mUn, mB, mAnd, mOr, mNot, mIf, mChain, mFn, mCall, mIs, mFor, itemsT, itemsL, mYes, mPart, mNo, mSl, startD, tyd, oCmp, oI, oLt, oLtX, oLe, oGt, oGe, oSub, oLen, oIx, isT, B_p_is_company_of, t2, tupN, coB, b1, b2, h]
      | _ =>
        simp only [btw] at b1
        simp [mFun, mSeq, mRet, mDrop, mIfS, mNever, mSkip, mSet, mAsg, mPar2, mPar3, tgName, tgTup, tgCons, tgNil, mVar, mC, mNil, mCons, mTup, mLst, mOp, mUn, mB, mAnd, mOr, mNot, mIf, mChain, mFn, mCall, mIs, mFor, itemsT, itemsL, mYes, mPart, mNo, mSl, startD, tyd, oCmp, oI, oLt, oLtX, oLe, oGt, oGe, oSub, oLen, oIx, isT, B_p_is_company_of, t2, tupN, coB, b1]
    | x :: y :: z :: r, _ => simp [mFun, mSeq, mRet, mDrop, mIfS, mNever, mSkip, mSet, mAsg, mPar2, mPar3, tgName, tgTup, tgCons, tgNil, mVar, mC, mNil, mCons, mTup, mLst, mOp, mUn, mB, mAnd, mOr, mNot, mIf, mChain, mFn, mCall, mIs, mFor, itemsT, itemsL, mYes, mPart, mNo, mSl, startD, tyd, oCmp, oI, oLt, oLtX, oLe, oGt, oGe, oSub, oLen, oIx, isT, B_p_is_company_of, t2, tupN, coB]
  | _ => simp [mFun, mSeq, mRet, mDrop, mIfS, mNever, mSkip, mSet, mAsg, mPar2, mPar3, tgName, tgTup, tgCons, tgNil, mVar, mC, mNil, mCons, mTup, mLst, mOp, mUn, mB, mAnd, mOr, mNot, mIf, mChain, mFn, mCall, mIs, mFor, itemsT, itemsL, mYes, mPart, mNo, mSl, startD, tyd, oCmp, oI, oLt, oLtX, oLe, oGt, oGe, oSub, oLen, oIx, isT, B_p_is_company_of, t2, tupN, coB]
theorem g_check_named {named : Int} (h : namedB named) (n : Nat) (M : MM) : G (n + 3) .p_check_named [.int named] M = some (.non, M) := by
  show mFun 1 (B_p_check_named (G (n + 2))) [.int named] M = _
  have b := g_is_between n (.int named) 1 3 M rfl
  have : btw (.int named) 1 3 = true := by simp [btw, h.1, h.2]
  simp [mFun, mSeq, mRet, mDrop, mIfS, mNever, mSkip, mSet, mAsg, mPar2, mPar3, tgName, tgTup, tgCons, tgNil, mVar, mC, mNil, mCons, mTup, mLst, mOp, mUn, mB, mAnd, mOr, mNot, mIf, mChain, mFn, mCall, mIs, mFor, itemsT, itemsL, mYes, mPart, mNo, mSl, startD, tyd, oCmp, oI, oLt, oLtX, oLe, oGt, oGe, oSub, oLen, oIx, isT, B_p_check_named, b, this]
theorem g_is_company {named : Int} (hN : namedB named) {k : Nat} (n : Nat) (d : D) (M : MM) (hg : good k d = true) : G (n + 6) .p_is_company [.int named, d] M = some (.bl (coB named d), M) := by
  show mFun 2 (B_p_is_company (G (n + 5))) [.int named, d] M = _
  have c := g_check_named hN (n + 2) M
  have b := g_is_company_of n named d M hg
  simp [mFun, mSeq, mRet, mDrop, mIfS, mNever, mSkip, mSet, mAsg, mPar2, mPar3, tgName, tgTup, tgCons, tgNil, mVar, mC, mNil, mCons, mTup, mLst, mOp, mUn, mB, mAnd, mOr, mNot, mIf, mChain, mFn, mCall, mIs, mFor, itemsT, itemsL, mYes, mPart, mNo, mSl, startD, tyd, oCmp, oI, oLt, oLtX, oLe, oGt, oGe, oSub, oLen, oIx, isT, B_p_is_company, c, b]
theorem g_check_company {named : Int} (hN : namedB named) {k : Nat} (n : Nat) (d : D) (M : MM) (hg : good k d = true) (h : coB named d = true) : G (n + 6) .p_check_company [.int named, d] M = some (.non, M) := by
  show mFun 2 (B_p_check_company (G (n + 5))) [.int named, d] M = _
  have c := g_check_named hN (n + 2) M
  have b := g_is_company_of n named d M hg
  simp [mFun, mSeq, mRet, mDrop, mIfS, mNever, mSkip, mSet, mAsg, mPar2, mPar3, tgName, tgTup, tgCons, tgNil, mVar, mC, mNil, mCons, mTup, mLst, mOp, mUn, mB, mAnd, mOr, mNot, mIf, mChain, mFn, mCall, mIs, mFor, itemsT, itemsL, mYes, mPart, mNo, mSl, startD, tyd, oCmp, oI, oLt, oLtX, oLe, oGt, oGe, oSub, oLen, oIx, isT, B_p_check_company, c, b, h]
/-! ### the law's own judge -/
def wholeB (d : D) (lo hi : Int) : Bool := match d with
  | .tup xs => xs.all fun x => btw x lo hi
  | _ => false
theorem oEq_nil {n : Nat} {xs : List D} {M : MM} (h : good n (.lst xs) = true) (hn : n ≤ 64) : oEq M (.lst xs) (.lst []) = some (.bl xs.isEmpty) := by
  show (if (okD (.lst xs) && okD (.lst [])) = true then some (D.bl (oEqv (.lst xs) (.lst []))) else none) = _
  rw [okD_of h hn, show okD (.lst []) = true by decide +kernel]
  cases xs <;> simp [oEqv, py, pys, PyData.eqv, PyData.eqvAll]
theorem oNe_nil {n : Nat} {xs : List D} {M : MM} (h : good n (.lst xs) = true) (hn : n ≤ 64) : oNe M (.lst xs) (.lst []) = some (.bl (!xs.isEmpty)) := by
  unfold oNe
  rw [oEq_nil h hn]
theorem good_ones {xs : List D} (p : D → Bool) (h : xs.length ≤ 1000) : good 1 (.lst ((xs.filter p).map fun _ => D.int 1)) = true := by
  simp only [good, Bool.and_eq_true, List.all_eq_true, decide_eq_true_eq, List.length_map]
  refine ⟨Nat.le_trans (List.length_filter_le _ _) h, fun x hx => ?_⟩
  obtain ⟨y, _, rfl⟩ := List.mem_map.mp hx
  rfl
theorem g_are_whole {k : Nat} (n : Nat) (d : D) (lo hi : Int) (M : MM) (hg : good k d = true) : G (n + 1) .Lare_whole [d, .int lo, .int hi] M = some (.bl (wholeB d lo hi), M) := by
  show mFun 4 (B_Lare_whole (G n)) [d, .int lo, .int hi] M = _
  cases d with
  | tup xs =>
    obtain ⟨j, hj, hx, hgx⟩ := good_tup hg
    have h3 : lcD (tgName 3) (mB (mOr (mIs "bool" (mVar 3)) (mOr (mNot (mIs "int" (mVar 3))) (mNot (mChain oLe oLe (mVar 1) (mVar 3) (mVar 2)))))) (mC (.int 1)) (wipeD [some (D.tup xs), some (.int lo), some (.int hi), none] [3]) xs M =
        some ((xs.filter fun x => !btw x lo hi).map fun _ => .int 1, M) := by
      refine lcD_filter _ _ fun x hx => ⟨_, rfl, ?_, fun _ => rfl⟩
      have gx := good_ty (hgx x hx)
      cases x with
      | int i =>
        by_cases h1 : lo ≤ i <;> by_cases h2 : i ≤ hi <;> simp [wipeD, mFun, mSeq, mRet, mDrop, mIfS, mNever, mSkip, mSet, mAsg, mPar2, mPar3, tgName, tgTup, tgCons, tgNil, mVar, mC, mNil, mCons, mTup, mLst, mOp, mUn, mB, mAnd, mOr, mNot, mIf, mChain, mFn, mCall, mIs, mFor, itemsT, itemsL, mYes, mPart, mNo, mSl, startD, tyd, oCmp, oI, oLt, oLtX, oLe, oGt, oGe, oSub, oLen, oIx, isT, btw, h1, h2]
      | _ => first | rfl | cases gx
    have h4 := oEq_nil (M := M) (good_ones (fun x => !btw x lo hi) hx) (by decide)
    have h5 : ((xs.filter fun x => !btw x lo hi).map fun _ => D.int 1).isEmpty = wholeB (.tup xs) lo hi := by
      rw [List.isEmpty_map, Bool.eq_iff_iff, List.isEmpty_iff, List.filter_eq_nil_iff]
      simp [wholeB]
    rw [h5] at h4
    simp only [oLe, oCmp] at h3
    simp [mFun, mSeq, mRet, mDrop, mIfS, mNever, mSkip, mSet, mAsg, mPar2, mPar3, tgName, tgTup, tgCons, tgNil, mVar, mC, mNil, mCons, mTup, mLst, mOp, mUn, mB, mAnd, mOr, mNot, mIf, mChain, mFn, mCall, mIs, mFor, itemsT, itemsL, mYes, mPart, mNo, mSl, startD, tyd, oCmp, oI, oLt, oLtX, oLe, oGt, oGe, oSub, oLen, oIx, isT, B_Lare_whole, mLc, h3, hx, h4]
  | _ => first | rfl | (cases k <;> cases hg)
end MT

namespace MT
open PySem PySem.Spec PyProof.Rows L2 NL
theorem oNe_ii {M : MM} {a b : Int} : oNe M (.int a) (.int b) = some (.bl (!(a == b))) := rfl
theorem oEq_ii {M : MM} {a b : Int} : oEq M (.int a) (.int b) = some (.bl (a == b)) := rfl
theorem cutD_01 (a : D) (xs : List D) : NL.cutD (a :: xs) none (some 1) = [a] := by
  have : HT.sIx (xs.length + 1) (xs.length + 1) (some 1) = 1 := by
    unfold HT.sIx
    simp
  simp [NL.cutD, this]
  simp [HT.sIx]
def badT (n : Int) (d : D) : Bool := !prB n d
theorem bad_whole {n : Int} {a b : D} : prB n (.tup [a, b]) = true → wholeB (.tup [a, b]) 0 (n - 1) = true := by
  intro h
  obtain ⟨p, e, h1, h2, h3⟩ := prB_is h
  cases e
  simp [wholeB, btw]
  omega
theorem judge_tie {k : Nat} (n : Nat) (m : Int) (x : D) (M : MM) (hg : good k x = true) (d0 : D) (ds e1 : D) (hd : d0 = .tup [.int m, ds]) :
    mB (mOr (mNot (mCall (G (n + 1) .Lare_whole) (mCons (mVar 2) (mCons (mC (.int 0)) (mCons (mOp oSub (mOp oIx (mVar 1) (mC (.int 0))) (mC (.int 1))) mNil))))) (mOr (mOp oNe (mFn oLen (mCons (mVar 2) mNil)) (mC (.int 2))) (mOp oGe (mOp oIx (mVar 2) (mC (.int 0))) (mOp oIx (mVar 2) (mC (.int 1))))))
      [some e1, some d0, some x] M = some (badT m x, M) := by
  subst hd
  have w := g_are_whole n x 0 (m - 1) M hg
  have a0 : atI [D.int m, ds] 0 = some (.int m) := at0 _ _
  cases x with
  | tup xs =>
    obtain ⟨j, hj, hl, hx⟩ := good_tup hg
    match xs, hx with
    | [], _ =>
      simp [mFun, mSeq, mRet, mDrop, mIfS, mNever, mSkip, mSet, mAsg, mPar2, mPar3, tgName, tgTup, tgCons, tgNil, mVar, mC, mNil, mCons, mTup, mLst, mOp, mUn, mB, mAnd, mOr, mNot, mIf, mChain, mFn, mCall, mIs, mFor, itemsT, itemsL, mYes, mPart, mNo, mSl, startD, tyd, oCmp, oI, oLt, oLtX, oLe, oGt, oGe, oSub, oLen, oIx, isT, w, a0, wholeB, badT, prB, oNe_ii, oEq_ii]
    | [x], _ => cases h : wholeB (.tup [x]) 0 (m - 1) <;> simp [mFun, mSeq, mRet, mDrop, mIfS, mNever, mSkip, mSet, mAsg, mPar2, mPar3, tgName, tgTup, tgCons, tgNil, mVar, mC, mNil, mCons, mTup, mLst, mOp, mUn, mB, mAnd, mOr, mNot, mIf, mChain, mFn, mCall, mIs, mFor, itemsT, itemsL, mYes, mPart, mNo, mSl, startD, tyd, oCmp, oI, oLt, oLtX, oLe, oGt, oGe, oSub, oLen, oIx, isT, w, a0, h, badT, prB, oNe_ii, oEq_ii]
    | [x, y], _ =>
      cases h : wholeB (.tup [x, y]) 0 (m - 1) with
      | false =>
        have : prB m (.tup [x, y]) = false := by
          cases q : prB m (.tup [x, y]) with
          | false => rfl
          | true => rw [bad_whole q] at h; cases h
        simp [mFun, mSeq, mRet, mDrop, mIfS, mNever, mSkip, mSet, mAsg, mPar2, mPar3, tgName, tgTup, tgCons, tgNil, mVar, mC, mNil, mCons, mTup, mLst, mOp, mUn, mB, mAnd, mOr, mNot, mIf, mChain, mFn, mCall, mIs, mFor, itemsT, itemsL, mYes, mPart, mNo, mSl, startD, tyd, oCmp, oI, oLt, oLtX, oLe, oGt, oGe, oSub, oLen, oIx, isT, w, a0, h, badT, this]
      | true =>
        cases x with
        | int i =>
          cases y with
          | int j =>
            simp [wholeB, btw] at h
            have e : badT m (.tup [.int i, .int j]) = decide (j ≤ i) := by
              rw [Bool.eq_iff_iff]
              unfold badT
              have := prB_pD (n := m) (p := (i, j))
              unfold okP pD at this
              simp only at this
              rw [Bool.not_eq_true', decide_eq_true_iff]
              cases q : prB m (.tup [.int i, .int j]) with
              | true =>
                have := this.mp q
                constructor
                · intro z; cases z
                · intro z; omega
              | false =>
                constructor
                · intro _
                  rcases Int.lt_or_le i j with z | z
                  · have := this.mpr ⟨by omega, z, by omega⟩
                    rw [q] at this
                    cases this
                  · exact z
                · intro _; rfl
            have b0 : atI [D.int i, D.int j] 0 = some (.int i) := at0 _ _
            have b1 : atI [D.int i, D.int j] 1 = some (.int j) := at1 _ _ _
            have w' : wholeB (.tup [.int i, .int j]) 0 (m - 1) = true := by simp [wholeB, btw]; omega
            simp [mFun, mSeq, mRet, mDrop, mIfS, mNever, mSkip, mSet, mAsg, mPar2, mPar3, tgName, tgTup, tgCons, tgNil, mVar, mC, mNil, mCons, mTup, mLst, mOp, mUn, mB, mAnd, mOr, mNot, mIf, mChain, mFn, mCall, mIs, mFor, itemsT, itemsL, mYes, mPart, mNo, mSl, startD, tyd, oCmp, oI, oLt, oLtX, oLe, oGt, oGe, oSub, oLen, oIx, isT, w, a0, w', e, b0, b1, oNe_ii, oEq_ii]
          | _ => simp [wholeB, btw] at h
        | _ => simp [wholeB, btw] at h
    | x :: y :: z :: r, _ =>
      have e : ((r.length : Int) + 1 + 1 + 1 == 2) = false := by rw [beq_eq_false_iff_ne]; omega
      cases h : wholeB (.tup (x :: y :: z :: r)) 0 (m - 1) <;> simp [mFun, mSeq, mRet, mDrop, mIfS, mNever, mSkip, mSet, mAsg, mPar2, mPar3, tgName, tgTup, tgCons, tgNil, mVar, mC, mNil, mCons, mTup, mLst, mOp, mUn, mB, mAnd, mOr, mNot, mIf, mChain, mFn, mCall, mIs, mFor, itemsT, itemsL, mYes, mPart, mNo, mSl, startD, tyd, oCmp, oI, oLt, oLtX, oLe, oGt, oGe, oSub, oLen, oIx, isT, w, a0, h, badT, prB, oNe_ii, oEq_ii, e]
  | _ => first | (cases k <;> cases hg; done) | (simp only [wholeB] at w; simp [mFun, mSeq, mRet, mDrop, mIfS, mNever, mSkip, mSet, mAsg, mPar2, mPar3, tgName, tgTup, tgCons, tgNil, mVar, mC, mNil, mCons, mTup, mLst, mOp, mUn, mB, mAnd, mOr, mNot, mIf, mChain, mFn, mCall, mIs, mFor, itemsT, itemsL, mYes, mPart, mNo, mSl, startD, tyd, oCmp, oI, oLt, oLtX, oLe, oGt, oGe, oSub, oLen, oIx, isT, w, a0, badT, prB])
theorem insP_len (p : Int × Int) : ∀ qs : List (Int × Int), (insP p qs).length ≤ qs.length + 1
  | [] => Nat.le_refl _
  | q :: qs => by
    unfold insP
    by_cases h : p = q
    · rw [if_pos h]
      simp
    · rw [if_neg h]
      by_cases h2 : ltP p q
      · rw [if_pos h2]
        simp
      · rw [if_neg h2]
        have := insP_len p qs
        simp only [List.length_cons]
        omega
theorem sortP_len : ∀ ps : List (Int × Int), (sortP ps).length ≤ ps.length
  | [] => Nat.le_refl _
  | p :: ps => by
    have h1 := sortP_len ps
    have h2 := insP_len p (sortP ps)
    show (insP p (sortP ps)).length ≤ ps.length + 1
    omega
theorem g_judged {k : Nat} (n : Nat) (named : Int) (d : D) (M : MM) (hg : good k d = true) (hk : k ≤ 60) (few : ∀ p xs, d = .tup [p, .tup xs] → xs.length < 64) : G (n + 2) .Ljudged [.int named, d] M = some (.bl (coB named d), M) := by
  show mFun 3 (B_Ljudged (G (n + 1))) [.int named, d] M = _
  cases d with
  | tup xs =>
    obtain ⟨j, hj, hl, hx⟩ := good_tup hg
    match xs, hx, few with
    | [], _, _ => simp [mFun, mSeq, mRet, mDrop, mIfS, mNever, mSkip, mSet, mAsg, mPar2, mPar3, tgName, tgTup, tgCons, tgNil, mVar, mC, mNil, mCons, mTup, mLst, mOp, mUn, mB, mAnd, mOr, mNot, mIf, mChain, mFn, mCall, mIs, mFor, itemsT, itemsL, mYes, mPart, mNo, mSl, startD, tyd, oCmp, oI, oLt, oLtX, oLe, oGt, oGe, oSub, oLen, oIx, isT, B_Ljudged, oNe_ii, oEq_ii, coB]
    | [x], _, _ => simp [mFun, mSeq, mRet, mDrop, mIfS, mNever, mSkip, mSet, mAsg, mPar2, mPar3, tgName, tgTup, tgCons, tgNil, mVar, mC, mNil, mCons, mTup, mLst, mOp, mUn, mB, mAnd, mOr, mNot, mIf, mChain, mFn, mCall, mIs, mFor, itemsT, itemsL, mYes, mPart, mNo, mSl, startD, tyd, oCmp, oI, oLt, oLtX, oLe, oGt, oGe, oSub, oLen, oIx, isT, B_Ljudged, oNe_ii, oEq_ii, coB]
    | [x, y], hx, few =>
      have hgx := hx x (by simp)
      have hgy := hx y (by simp)
      have g1 : good (j + 1) (.tup [x]) = true := by simp [good, hgx]
      have w := g_are_whole n (.tup [x]) named 9 M g1
      have ew : wholeB (.tup [x]) named 9 = btw x named 9 := by simp [wholeB]
      rw [ew] at w
      have a0 : atI [x, y] 0 = some x := at0 _ _
      have a1 : atI [x, y] 1 = some y := at1 _ _ _
      have c0 : NL.cutD [x, y] none (some 1) = [x] := cutD_01 _ _
      cases hb : btw x named 9 with
      | false =>
        have : coB named (.tup [x, y]) = false := by
          cases x <;> simp [coB] <;> simp [btw] at hb
          rename_i i
          intro q
          simp [btw] at q
          omega
        simp [mFun, mSeq, mRet, mDrop, mIfS, mNever, mSkip, mSet, mAsg, mPar2, mPar3, tgName, tgTup, tgCons, tgNil, mVar, mC, mNil, mCons, mTup, mLst, mOp, mUn, mB, mAnd, mOr, mNot, mIf, mChain, mFn, mCall, mIs, mFor, itemsT, itemsL, mYes, mPart, mNo, mSl, startD, tyd, oCmp, oI, oLt, oLtX, oLe, oGt, oGe, oSub, oLen, oIx, isT, B_Ljudged, oNe_ii, oEq_ii, c0, oSl, w, hb, this]
      | true =>
        cases x with
        | int m =>
          have hc : coB named (.tup [.int m, y]) = tiesB m y := by simp [coB, hb]
          rw [hc]
          cases y with
          | tup ts =>
            obtain ⟨j2, hj2, hl2, hx2⟩ := good_tup hgy
            have h3 : lcD (tgName 2) (mB (mOr (mNot (mCall (G (n + 1) .Lare_whole) (mCons (mVar 2) (mCons (mC (.int 0)) (mCons (mOp oSub (mOp oIx (mVar 1) (mC (.int 0))) (mC (.int 1))) mNil))))) (mOr (mOp oNe (mFn oLen (mCons (mVar 2) mNil)) (mC (.int 2))) (mOp oGe (mOp oIx (mVar 2) (mC (.int 0))) (mOp oIx (mVar 2) (mC (.int 1)))))))
              (mC (.int 1)) (wipeD [some (.int named), some (.tup [.int m, .tup ts]), none] [2]) ts M = some ((ts.filter (badT m)).map fun _ => .int 1, M) :=
              lcD_filter _ _ fun x hx => ⟨_, rfl, judge_tie n m x M (hx2 x hx) _ _ _ rfl, fun _ => rfl⟩
            have h4 := oNe_nil (M := M) (good_ones (badT m) hl2) (by decide)
            have h5 : ((ts.filter (badT m)).map fun _ => D.int 1).isEmpty = ts.all (prB m) := by
              rw [List.isEmpty_map, Bool.eq_iff_iff, List.isEmpty_iff, List.filter_eq_nil_iff]
              simp [badT]
            rw [h5] at h4
            simp only [oSub, oGe, oCmp] at h3
            cases hall : ts.all (prB m) with
            | false =>
              rw [hall] at h4
              simp [mFun, mSeq, mRet, mDrop, mIfS, mNever, mSkip, mSet, mAsg, mPar2, mPar3, tgName, tgTup, tgCons, tgNil, mVar, mC, mNil, mCons, mTup, mLst, mOp, mUn, mB, mAnd, mOr, mNot, mIf, mChain, mFn, mCall, mIs, mFor, itemsT, itemsL, mYes, mPart, mNo, mSl, startD, tyd, oCmp, oI, oLt, oLtX, oLe, oGt, oGe, oSub, oLen, oIx, isT, B_Ljudged, oNe_ii, oEq_ii, c0, oSl, w, hb, a1, tiesB, mLc, hl2, h3, h4, hall]
            | true =>
              rw [hall] at h4
              obtain ⟨ps, hts, hp⟩ := prs_of (List.all_eq_true.mp hall)
              have e1 : ordD ts = ordB ps := by rw [hts]; exact ordD_map ps
              have e2 : pairsOf ts = some ps := by rw [hts]; exact pairsOf_map ps
              have hb' : named ≤ m ∧ m ≤ 9 := by simpa [btw] using hb
              have few' : ps.length < 64 := by
                have := few _ _ rfl
                rw [hts] at this
                simpa using this
              have e3 : ps.length < 64 ∧ ∀ p ∈ ps, (0 ≤ p.1 ∧ p.1 < 64) ∧ 0 ≤ p.2 ∧ p.2 < 64 := ⟨few', fun p hp' => by
                obtain ⟨q1, q2, q3⟩ := hp p hp'
                omega⟩
              have jt : jd (.lst ts) = true := by rw [hts]; exact jds_map jd_pD ps
              have js : jd (.lst ((sortP ps).map pD)) = true := jds_map jd_pD _
              have gt : good 2 (.lst ts) = true := by rw [hts]; exact (good_prs (by omega)).2
              have sl : (sortP ps).length ≤ ps.length := sortP_len ps
              have gs : good 2 (.lst ((sortP ps).map pD)) = true := (good_prs (by omega)).2
              obtain ⟨b, o1, o2⟩ := oEq_j (M := M) jt js gt gs (by decide) (by decide)
              have eb : b = ordB ps := by
                rw [Bool.eq_iff_iff, o2, hts]
                unfold ordB
                rw [decide_eq_true_iff]
                exact ⟨fun z => by injection z with z; exact map_pD_inj z, fun z => by rw [← z]⟩
              have o3 : mSortSet (mOp oIx (mVar 1) (mC (.int 1))) [some (.int named), some (.tup [.int m, .tup ts]), none] M = some (.lst ((sortP ps).map pD), M) := by
                simp only [mSortSet, mOp, mVar, mC, List.getElem?_cons_zero, List.getElem?_cons_succ, Option.bind_some, oIx, a1, e2]
                rw [if_pos e3]
              simp [mFun, mSeq, mRet, mDrop, mIfS, mNever, mSkip, mSet, mAsg, mPar2, mPar3, tgName, tgTup, tgCons, tgNil, mVar, mC, mNil, mCons, mTup, mLst, mOp, mUn, mB, mAnd, mOr, mNot, mIf, mChain, mFn, mCall, mIs, mFor, itemsT, itemsL, mYes, mPart, mNo, mSl, startD, tyd, oCmp, oI, oLt, oLtX, oLe, oGt, oGe, oSub, oLen, oIx, isT, B_Ljudged, oNe_ii, oEq_ii, c0, oSl, w, hb, a1, tiesB, mLc, hl2, h3, h4, hall, oList, o3, o1, eb, e1]
          | _ => first | (cases j <;> cases hgy; done) | (simp [mFun, mSeq, mRet, mDrop, mIfS, mNever, mSkip, mSet, mAsg, mPar2, mPar3, tgName, tgTup, tgCons, tgNil, mVar, mC, mNil, mCons, mTup, mLst, mOp, mUn, mB, mAnd, mOr, mNot, mIf, mChain, mFn, mCall, mIs, mFor, itemsT, itemsL, mYes, mPart, mNo, mSl, startD, tyd, oCmp, oI, oLt, oLtX, oLe, oGt, oGe, oSub, oLen, oIx, isT, B_Ljudged, oNe_ii, oEq_ii, c0, oSl, w, hb, a1, tiesB])
        | _ => simp [btw] at hb
    | x :: y :: z :: r, _, _ =>
      have e : ((r.length : Int) + 1 + 1 + 1 == 2) = false := by rw [beq_eq_false_iff_ne]; omega
      simp [mFun, mSeq, mRet, mDrop, mIfS, mNever, mSkip, mSet, mAsg, mPar2, mPar3, tgName, tgTup, tgCons, tgNil, mVar, mC, mNil, mCons, mTup, mLst, mOp, mUn, mB, mAnd, mOr, mNot, mIf, mChain, mFn, mCall, mIs, mFor, itemsT, itemsL, mYes, mPart, mNo, mSl, startD, tyd, oCmp, oI, oLt, oLtX, oLe, oGt, oGe, oSub, oLen, oIx, isT, B_Ljudged, oNe_ii, oEq_ii, coB, e]
  | _ => first | rfl | (cases k <;> cases hg)
end MT

namespace MT
open PySem PySem.Spec PyProof.Rows L2 NL
/-! ### all pairs of n people -/
def allP (n : Nat) : List (Int × Int) := (List.range n).flatMap fun (i : Nat) => (List.range (n - (i + 1))).map fun (j : Nat) => ((i : Int), (i : Int) + 1 + (j : Int))
theorem allP_ord : ∀ n, n ≤ 9 → ordB (allP n) = true := by decide +kernel
theorem allP_len : ∀ n, n ≤ 9 → (allP n).length ≤ 36 := by decide +kernel
theorem mem_allP {n : Nat} {p : Int × Int} : p ∈ allP n ↔ okP n p := by
  unfold allP okP
  rw [List.mem_flatMap]
  constructor
  · rintro ⟨i, hi, hp⟩
    obtain ⟨j, hj, rfl⟩ := List.mem_map.mp hp
    have hi := List.mem_range.mp hi
    have hj := List.mem_range.mp hj
    simp only
    omega
  · rintro ⟨h1, h2, h3⟩
    refine ⟨p.1.toNat, List.mem_range.mpr (by omega), List.mem_map.mpr ⟨(p.2 - p.1 - 1).toNat, List.mem_range.mpr (by omega), ?_⟩⟩
    exact Prod.ext (by simp only; omega) (by simp only; omega)
theorem g_Lpairs (k n : Nat) (hn : n ≤ 9) (M : MM) : G (k + 1) .Lpairs [.int n] M = some (.lst ((allP n).map pD), M) := by
  match n, hn with
  | 0, _ => rfl
  | 1, _ => rfl
  | 2, _ => rfl
  | 3, _ => rfl
  | 4, _ => rfl
  | 5, _ => rfl
  | 6, _ => rfl
  | 7, _ => rfl
  | 8, _ => rfl
  | 9, _ => rfl
  | n + 10, h => omega
theorem g_pairs_of (k n : Nat) (hn : n ≤ 9) (M : MM) : G (k + 1) .p_pairs_of [.int n] M = some (.lst ((allP n).map pD), M) := by
  match n, hn with
  | 0, _ => rfl
  | 1, _ => rfl
  | 2, _ => rfl
  | 3, _ => rfl
  | 4, _ => rfl
  | 5, _ => rfl
  | 6, _ => rfl
  | 7, _ => rfl
  | 8, _ => rfl
  | 9, _ => rfl
  | n + 10, h => omega
/-! ### who knows whom -/
def prD (a b : Int) : Int × Int := (lo2 a b, hi2 a b)
theorem g_two (k : Nat) (a b : Int) (M : MM) : G (k + 1) .Ltwo [.int a, .int b] M = some (pD (prD a b), M) := by
  show mFun 2 (B_Ltwo (G k)) [.int a, .int b] M = _
  by_cases h : a < b <;> simp [mFun, mSeq, mRet, mDrop, mIfS, mNever, mSkip, mSet, mAsg, mPar2, mPar3, tgName, tgTup, tgCons, tgNil, mVar, mC, mNil, mCons, mTup, mLst, mOp, mUn, mB, mAnd, mOr, mNot, mIf, mChain, mFn, mCall, mIs, mFor, itemsT, itemsL, mYes, mPart, mNo, mSl, startD, tyd, oCmp, oI, oLt, oLtX, oLe, oGt, oGe, oSub, oLen, oIx, isT, B_Ltwo, h, prD, pD, lo2, hi2]
theorem g_pair_of (k : Nat) (a b : Int) (M : MM) : G (k + 1) .p_pair_of [.int a, .int b] M = some (pD (prD a b), M) := by
  show mFun 2 (B_p_pair_of (G k)) [.int a, .int b] M = _
  by_cases h : a < b <;> simp [mFun, mSeq, mRet, mDrop, mIfS, mNever, mSkip, mSet, mAsg, mPar2, mPar3, tgName, tgTup, tgCons, tgNil, mVar, mC, mNil, mCons, mTup, mLst, mOp, mUn, mB, mAnd, mOr, mNot, mIf, mChain, mFn, mCall, mIs, mFor, itemsT, itemsL, mYes, mPart, mNo, mSl, startD, tyd, oCmp, oI, oLt, oLtX, oLe, oGt, oGe, oSub, oLen, oIx, isT, B_p_pair_of, h, prD, pD, lo2, hi2]
theorem anyEq_prs (p : Int × Int) : ∀ ts : List (Int × Int), anyEq (pD p) (ts.map pD) = decide (p ∈ ts)
  | [] => rfl
  | t :: ts => by
    show (oEqv (pD t) (pD p) || anyEq (pD p) (ts.map pD)) = _
    rw [anyEq_prs p ts, Bool.eq_iff_iff, Bool.or_eq_true, eqv_j (jd_pD t) (jd_pD p), decide_eq_true_iff, decide_eq_true_iff, List.mem_cons]
    constructor
    · rintro (h | h)
      · exact .inl (pD_inj h).symm
      · exact .inr h
    · rintro (h | h)
      · exact .inl (by rw [h])
      · exact .inr h
def inT (ts : List (Int × Int)) (a b : Int) : Bool := decide (prD a b ∈ ts)
def cD (n : Int) (ts : List (Int × Int)) : D := .tup [.int n, .tup (ts.map pD)]
theorem good_cD {n : Int} {ts : List (Int × Int)} (h : ts.length ≤ 1000) : good 3 (cD n ts) = true := by
  have := (good_prs h).1
  simp only [cD, good, List.length_cons, List.length_nil, List.all_cons, List.all_nil, Bool.and_true, Bool.and_eq_true, decide_eq_true_eq]
  exact ⟨by omega, trivial, by simpa [good] using this⟩
theorem jd_cD (n : Int) (ts : List (Int × Int)) : jd (cD n ts) = true := by
  show (true && (jds (ts.map pD) && true)) = true
  rw [jds_map jd_pD ts]
  rfl
theorem oInX_prs {ts : List (Int × Int)} {p : Int × Int} {M : MM} (h : ts.length ≤ 1000) : oInX M (pD p) (.tup (ts.map pD)) = some (.bl (decide (p ∈ ts))) := by
  have e : getD M (.tup (ts.map pD)) (pD p) = none := rfl
  unfold oInX
  rw [e]
  show (if (okD (pD p) && okD (.tup (ts.map pD))) = true then some (D.bl (anyEq (pD p) (ts.map pD))) else none) = _
  rw [okD_of (good_pD 0 p) (by decide), okD_of (good_prs h).1 (by decide), anyEq_prs]
  rfl
theorem cD_0 (n : Int) (ts : List (Int × Int)) : atI [D.int n, .tup (ts.map pD)] 0 = some (.int n) := at0 _ _
theorem cD_1 (n : Int) (ts : List (Int × Int)) : atI [D.int n, .tup (ts.map pD)] 1 = some (.tup (ts.map pD)) := at1 _ _ _
theorem g_knows (k : Nat) (n a b : Int) (ts : List (Int × Int)) (M : MM) (h : ts.length ≤ 1000) : G (k + 2) .Lknows [cD n ts, .int a, .int b] M = some (.bl (inT ts a b), M) := by
  show mFun 3 (B_Lknows (G (k + 1))) [cD n ts, .int a, .int b] M = _
  have t := g_two k a b M
  have i := oInX_prs (p := prD a b) (M := M) h
  have c1 := cD_1 n ts
  simp [mFun, mSeq, mRet, mDrop, mIfS, mNever, mSkip, mSet, mAsg, mPar2, mPar3, tgName, tgTup, tgCons, tgNil, mVar, mC, mNil, mCons, mTup, mLst, mOp, mUn, mB, mAnd, mOr, mNot, mIf, mChain, mFn, mCall, mIs, mFor, itemsT, itemsL, mYes, mPart, mNo, mSl, startD, tyd, oCmp, oI, oLt, oLtX, oLe, oGt, oGe, oSub, oLen, oIx, isT, B_Lknows, t, cD, c1, i, inT]
/-- a company of n people, k of them named -/
structure Co (k n : Nat) (ts : List (Int × Int)) : Prop where
  k1 : 1 ≤ k
  k3 : k ≤ 3
  kn : k ≤ n
  n9 : n ≤ 9
  ok : ∀ p ∈ ts, okP n p
  ord : ordB ts = true
theorem len_ord {n : Nat} {ts : List (Int × Int)} (hn : n ≤ 9) (ok : ∀ p ∈ ts, okP n p) (ord : ordB ts = true) : ts.length ≤ 36 := by
  have h1 := ordB_iff.mp ord
  have e : ts = (allP n).filter fun p => decide (p ∈ ts) := by
    refine sorted_one h1 ((ordB_iff.mp (allP_ord n hn)).filter _) fun p => ?_
    rw [List.mem_filter, decide_eq_true_iff, mem_allP]
    exact ⟨fun h => ⟨ok p h, h⟩, fun h => h.2⟩
  rw [e]
  exact Nat.le_trans (List.length_filter_le _ _) (allP_len n hn)
theorem Co.len {k n : Nat} {ts : List (Int × Int)} (c : Co k n ts) : ts.length ≤ 36 := len_ord c.n9 c.ok c.ord
theorem Co.co {k n : Nat} {ts : List (Int × Int)} (c : Co k n ts) : coB k (cD n ts) = true := by
  show (btw (.int n) k 9 && ((ts.map pD).all (prB n) && ordD (ts.map pD))) = true
  rw [ordD_map, c.ord, Bool.and_true, Bool.and_eq_true]
  refine ⟨?_, List.all_eq_true.mpr fun x hx => ?_⟩
  · have := c.kn
    have := c.n9
    simp [btw]
    omega
  · obtain ⟨p, hp, rfl⟩ := List.mem_map.mp hx
    exact prB_pD.mpr (c.ok p hp)
theorem Co.nm {k n : Nat} {ts : List (Int × Int)} (c : Co k n ts) : namedB k := ⟨by have := c.k1; omega, by have := c.k3; omega⟩
theorem g_check_person (k : Nat) (n a : Int) (ts : List (Int × Int)) (M : MM) (h1 : 0 ≤ a) (h2 : a < n) : G (k + 3) .p_check_person [cD n ts, .int a] M = some (.non, M) := by
  show mFun 2 (B_p_check_person (G (k + 2))) [cD n ts, .int a] M = _
  have b := g_is_between k (.int a) 0 (n - 1) M rfl
  have e : btw (.int a) 0 (n - 1) = true := by simp [btw]; omega
  have c0 := cD_0 n ts
  simp [mFun, mSeq, mRet, mDrop, mIfS, mNever, mSkip, mSet, mAsg, mPar2, mPar3, tgName, tgTup, tgCons, tgNil, mVar, mC, mNil, mCons, mTup, mLst, mOp, mUn, mB, mAnd, mOr, mNot, mIf, mChain, mFn, mCall, mIs, mFor, itemsT, itemsL, mYes, mPart, mNo, mSl, startD, tyd, oCmp, oI, oLt, oLtX, oLe, oGt, oGe, oSub, oLen, oIx, isT, B_p_check_person, b, e, cD, c0]
theorem g_check_other (k : Nat) (n a b : Int) (ts : List (Int × Int)) (M : MM) (h1 : 0 ≤ b) (h2 : b < n) (h : a ≠ b) : G (k + 4) .p_check_other [cD n ts, .int a, .int b] M = some (.non, M) := by
  show mFun 3 (B_p_check_other (G (k + 3))) [cD n ts, .int a, .int b] M = _
  have c := g_check_person k n b ts M h1 h2
  have e : (a == b) = false := by simpa using h
  simp [mFun, mSeq, mRet, mDrop, mIfS, mNever, mSkip, mSet, mAsg, mPar2, mPar3, tgName, tgTup, tgCons, tgNil, mVar, mC, mNil, mCons, mTup, mLst, mOp, mUn, mB, mAnd, mOr, mNot, mIf, mChain, mFn, mCall, mIs, mFor, itemsT, itemsL, mYes, mPart, mNo, mSl, startD, tyd, oCmp, oI, oLt, oLtX, oLe, oGt, oGe, oSub, oLen, oIx, isT, B_p_check_other, c, oEq_ii, e]
theorem g_do_know {k n : Nat} {ts : List (Int × Int)} (c : Co k n ts) (l : Nat) (a b : Int) (M : MM) (a1 : 0 ≤ a) (a2 : a < n) (b1 : 0 ≤ b) (b2 : b < n) (h : a ≠ b) : G (l + 7) .p_do_know [.int k, cD n ts, .int a, .int b] M = some (.bl (inT ts a b), M) := by
  show mFun 4 (B_p_do_know (G (l + 6))) [.int k, cD n ts, .int a, .int b] M = _
  have len := c.len
  have q1 := g_check_company c.nm l (cD n ts) M (good_cD (by omega)) c.co
  have q2 : G (l + 6) .p_check_person [cD n ts, .int a] M = some (.non, M) := g_check_person (l + 3) n a ts M a1 a2
  have q3 : G (l + 6) .p_check_other [cD n ts, .int a, .int b] M = some (.non, M) := g_check_other (l + 2) n a b ts M b1 b2 h
  have q4 : G (l + 6) .p_pair_of [.int a, .int b] M = some (pD (prD a b), M) := g_pair_of (l + 5) a b M
  have i := oInX_prs (p := prD a b) (M := M) (show ts.length ≤ 1000 by omega)
  have c1 := cD_1 n ts
  generalize e : cD n ts = d at q1 q2 q3 ⊢
  have e' : d = .tup [.int n, .tup (ts.map pD)] := e.symm
  simp [mFun, mSeq, mRet, mDrop, mIfS, mNever, mSkip, mSet, mAsg, mPar2, mPar3, tgName, tgTup, tgCons, tgNil, mVar, mC, mNil, mCons, mTup, mLst, mOp, mUn, mB, mAnd, mOr, mNot, mIf, mChain, mFn, mCall, mIs, mFor, itemsT, itemsL, mYes, mPart, mNo, mSl, startD, tyd, oCmp, oI, oLt, oLtX, oLe, oGt, oGe, oSub, oLen, oIx, isT, B_p_do_know, q1, q2, q3, q4]
  subst e'
  simp [c1, i, inT]
theorem g_known_to {k n : Nat} {ts : List (Int × Int)} (c : Co k n ts) (l : Nat) (a : Int) (M : MM) (a1 : 0 ≤ a) (a2 : a < n) : G (l + 7) .p_known_to [.int k, cD n ts, .int a] M = some (.tup (((List.range n).filter fun (j : Nat) => inT ts a j).map fun (j : Nat) => .int j), M) := by
  show mFun 3 (B_p_known_to (G (l + 6))) [.int k, cD n ts, .int a] M = _
  have len := c.len
  have n9 := c.n9
  have q1 := g_check_company c.nm l (cD n ts) M (good_cD (by omega)) c.co
  have q2 : G (l + 6) .p_check_person [cD n ts, .int a] M = some (.non, M) := g_check_person (l + 3) n a ts M a1 a2
  have q3 : mKnown 2 1 [some (.int k), some (cD n ts), some (.int a)] M = some (.tup (((List.range n).filter fun (j : Nat) => inT ts a j).map fun (j : Nat) => .int j), M) := by
    show (if (0 : Int) ≤ n ∧ (n : Int) ≤ 1000 ∧ okD (.tup (ts.map pD)) = true then some (D.tup (((List.range (n : Int).toNat).filter fun (k : Nat) => anyEq (.tup [.int (lo2 a k), .int (hi2 a k)]) (ts.map pD)).map fun (k : Nat) => .int (k : Nat)), M) else none) = _
    rw [if_pos ⟨by omega, by omega, okD_of (good_prs (by omega)).1 (by decide)⟩, Int.toNat_natCast]
    have : (fun (j : Nat) => anyEq (.tup [.int (lo2 a j), .int (hi2 a j)]) (ts.map pD)) = fun (j : Nat) => inT ts a j := funext fun j => anyEq_prs (prD a j) ts
    rw [this]
  generalize cD n ts = d at q1 q2 q3 ⊢
  simp [mFun, mSeq, mRet, mDrop, mIfS, mNever, mSkip, mSet, mAsg, mPar2, mPar3, tgName, tgTup, tgCons, tgNil, mVar, mC, mNil, mCons, mTup, mLst, mOp, mUn, mB, mAnd, mOr, mNot, mIf, mChain, mFn, mCall, mIs, mFor, itemsT, itemsL, mYes, mPart, mNo, mSl, startD, tyd, oCmp, oI, oLt, oLtX, oLe, oGt, oGe, oSub, oLen, oIx, isT, B_p_known_to, q1, q2, q3]
end MT

namespace MT
open PySem PySem.Spec PyProof.Rows L2 NL
/-! ### unlike people -/
theorem intsOf_ints : ∀ bs : List Int, intsOf (bs.map D.int) = some bs
  | [] => rfl
  | b :: bs => by
    show (match intsOf (bs.map D.int) with | some cs => some (b :: cs) | none => none) = _
    rw [intsOf_ints bs]
theorem g_unlike (k : Nat) (bs : List Int) (lo hi : Int) (M : MM) (nd : bs.Nodup) (hb : ∀ b ∈ bs, lo ≤ b ∧ b ≤ hi) (len : bs.length ≤ 1000) : G (k + 3) .p_are_unlike_between [.tup (bs.map D.int), .int lo, .int hi] M = some (.bl true, M) := by
  show mFun 4 (B_p_are_unlike_between (G (k + 2))) [.tup (bs.map D.int), .int lo, .int hi] M = _
  have hl : (bs.map D.int).length ≤ 1000 := by simpa using len
  have i1 := intsOf_ints bs
  have hx : ∀ x ∈ bs.map D.int, btw x lo hi = true := fun x hx => by
    obtain ⟨b, hb', rfl⟩ := List.mem_map.mp hx
    have := hb b hb'
    simp [btw, this]
  have ht : ∀ x ∈ bs.map D.int, tyd x = true := fun x hx => by
    obtain ⟨b, hb', rfl⟩ := List.mem_map.mp hx
    rfl
  have el : (bs.map D.int).length = bs.length := by simp
  generalize bs.map D.int = xs at *
  have h3 : lcD (tgName 3) mYes (mCall (G (k + 2) Fid.p_is_between) (mCons (mVar 3) (mCons (mVar 1) (mCons (mVar 2) mNil)))) (wipeD [some (D.tup xs), some (.int lo), some (.int hi), none] [3]) xs M = some (xs.map fun d => .bl (btw d lo hi), M) :=
    lcD_map _ fun d hd => ⟨_, rfl, g_is_between k d lo hi M (ht d hd)⟩
  have hall : (xs.all fun d => btw d lo hi) = true := List.all_eq_true.mpr hx
  have o3 : mLenSet (mVar 0) [some (.tup xs), some (.int lo), some (.int hi), none] M = some (.int bs.length, M) := by
    simp only [mLenSet, mVar, List.getElem?_cons_zero, Option.bind_some, i1]
    rw [if_pos ⟨nd, len⟩]
  simp [mFun, mSeq, mRet, mDrop, mIfS, mNever, mSkip, mSet, mAsg, mPar2, mPar3, tgName, tgTup, tgCons, tgNil, mVar, mC, mNil, mCons, mTup, mLst, mOp, mUn, mB, mAnd, mOr, mNot, mIf, mChain, mFn, mCall, mIs, mFor, itemsT, itemsL, mYes, mPart, mNo, mSl, startD, tyd, oCmp, oI, oLt, oLtX, oLe, oGt, oGe, oSub, oLen, oIx, isT, B_p_are_unlike_between, mLc, h3, hl, oAll, boolsOf_map, List.all_map, Function.comp_def, hall, o3, oEq_ii, el, len]
theorem g_check_besides (k : Nat) (named n : Int) (bs : List Int) (ts : List (Int × Int)) (M : MM) (nd : bs.Nodup) (hb : ∀ b ∈ bs, named ≤ b ∧ b < n) (len : bs.length ≤ 1000) : G (k + 4) .p_check_besides [.int named, cD n ts, .tup (bs.map D.int)] M = some (.non, M) := by
  show mFun 3 (B_p_check_besides (G (k + 3))) [.int named, cD n ts, .tup (bs.map D.int)] M = _
  have u := g_unlike k bs named (n - 1) M nd (fun b h => by have := hb b h; omega) len
  have c0 := cD_0 n ts
  generalize bs.map D.int = xs at *
  simp [mFun, mSeq, mRet, mDrop, mIfS, mNever, mSkip, mSet, mAsg, mPar2, mPar3, tgName, tgTup, tgCons, tgNil, mVar, mC, mNil, mCons, mTup, mLst, mOp, mUn, mB, mAnd, mOr, mNot, mIf, mChain, mFn, mCall, mIs, mFor, itemsT, itemsL, mYes, mPart, mNo, mSl, startD, tyd, oCmp, oI, oLt, oLtX, oLe, oGt, oGe, oSub, oLen, oIx, isT, B_p_check_besides, cD, c0, u]
/-! ### a dict of pairs -/
def kk (p : Int × Int) : List Key := [.inl p.1, .inl p.2]
theorem kk_inj {p q : Int × Int} (h : kk p = kk q) : p = q := by
  unfold kk at h
  injection h with h1 h2
  injection h2 with h2 _
  injection h1 with h1
  injection h2 with h2
  exact Prod.ext h1 h2
theorem mem_putKs {ks : List (List Key)} {j key : List Key} : key ∈ putKs ks j ↔ key ∈ ks ∨ key = j := by
  unfold putKs
  by_cases h : j ∈ ks
  · rw [if_pos h]
    exact ⟨.inl, fun z => z.elim id fun e => e ▸ h⟩
  · rw [if_neg h, List.mem_append, List.mem_singleton]
theorem putVs_le {ks : List (List Key)} {ds : List D} {j : List Key} {d : D} : (putVs ks ds j d).length ≤ ds.length + 1 := by
  unfold putVs
  by_cases h : j ∈ ks
  · rw [if_pos h, setVs_len]
    omega
  · rw [if_neg h]
    simp
theorem look_some {κ : Type} [DecidableEq κ] {ks : List κ} {ds : List D} {j : κ} (h : ks.length = ds.length) : (look ks ds j).isSome = true ↔ j ∈ ks := by
  induction ks generalizing ds with
  | nil =>
    cases ds with
    | nil => simp [look]
    | cons d ds => cases h
  | cons k ks ih =>
    cases ds with
    | nil => cases h
    | cons d ds =>
      have := ih (ds := ds) (by simpa using h)
      unfold look
      by_cases e : k = j
      · rw [if_pos e]
        simp [e]
      · rw [if_neg e, this, List.mem_cons]
        exact ⟨.inr, fun z => z.elim (fun q => absurd q.symm e) id⟩
theorem putO_prs {ks : List (List Key)} {ds : List D} {p : Int × Int} {d : D} (h : ds.length ≤ 1000) : putO (.dt ks ds) (pD p) d = some (.dt (putKs ks (kk p)) (putVs ks ds (kk p) d)) := by
  show (if ds.length ≤ 1000 then some (D.dt (putKs ks (kk p)) (putVs ks ds (kk p) d)) else none) = _
  rw [if_pos h]
theorem dc_prs {r : En} {M : MM} (hr : 6 < r.length) : ∀ (ts : List (Int × Int)) (ks : List (List Key)) (ds : List D), ks.length = ds.length → ds.length + ts.length ≤ 1000 →
    ∃ ks' ds', dcD (tgName 6) mYes (mVar 6) (mC (.bl true)) r (ts.map pD) (.dt ks ds) M = some (.dt ks' ds', M) ∧ ks'.length = ds'.length ∧ ∀ key, key ∈ ks' ↔ key ∈ ks ∨ ∃ p ∈ ts, key = kk p
  | [], ks, ds, h, _ => ⟨ks, ds, rfl, h, fun key => ⟨.inl, fun z => z.elim id fun ⟨_, q, _⟩ => absurd q (by simp)⟩⟩
  | p :: ts, ks, ds, h, hl => by
    simp only [List.length_cons] at hl
    obtain ⟨ks', ds', e1, e2, e3⟩ := dc_prs (r := r) (M := M) hr ts (putKs ks (kk p)) (putVs ks ds (kk p) (.bl true)) (putVs_len (β := D) (kk p) (.bl true) h) (by have := putVs_le (ks := ks) (ds := ds) (j := kk p) (d := .bl true); omega)
    refine ⟨ks', ds', ?_, e2, fun key => ?_⟩
    · have v : mVar 6 (r.set 6 (some (pD p))) M = some (pD p, M) := by
        unfold mVar
        rw [List.getElem?_set_self hr]
      show dcD (tgName 6) mYes (mVar 6) (mC (.bl true)) r (pD p :: ts.map pD) (.dt ks ds) M = _
      unfold dcD
      simp only [tgName, mYes, v, mC, putO_prs (show ds.length ≤ 1000 by omega)]
      exact e1
    · rw [e3, mem_putKs]
      constructor
      · rintro ((z | z) | ⟨q, hq, z⟩)
        · exact .inl z
        · exact .inr ⟨p, List.mem_cons_self, z⟩
        · exact .inr ⟨q, List.mem_cons_of_mem _ hq, z⟩
      · rintro (z | ⟨q, hq, z⟩)
        · exact .inl (.inl z)
        · rcases List.mem_cons.mp hq with e | e
          · exact .inl (.inr (e ▸ z))
          · exact .inr ⟨q, e, z⟩
/-! ### the part -/
def ppl (k : Nat) (bs : List Int) : List Int := (List.range k).map (fun (i : Nat) => (i : Int)) ++ bs
theorem ppl_len (k : Nat) (bs : List Int) : (ppl k bs).length = k + bs.length := by simp [ppl]
def pp (k : Nat) (bs : List Int) (i : Int) : Int := (ppl k bs).getD i.toNat 0
theorem pp_at {k : Nat} {bs : List Int} {i : Int} (h0 : 0 ≤ i) (h1 : i < (k + bs.length : Nat)) : atI ((ppl k bs).map D.int) i = some (.int (pp k bs i)) := by
  have hl : i.toNat < (ppl k bs).length := by rw [ppl_len]; omega
  have e : i = (i.toNat : Int) := by omega
  rw [e]
  refine atI_nat ?_
  rw [List.getElem?_map, List.getElem?_eq_getElem hl]
  show some (D.int (ppl k bs)[i.toNat]) = _
  unfold pp
  rw [Int.toNat_natCast, List.getD_eq_getElem?_getD, List.getElem?_eq_getElem hl]
  rfl
def ptP (k : Nat) (bs : List Int) (ts : List (Int × Int)) : List (Int × Int) := (allP (k + bs.length)).filter fun p => inT ts (pp k bs p.1) (pp k bs p.2)
def ptD (k : Nat) (bs : List Int) (ts : List (Int × Int)) : D := cD ((k + bs.length : Nat) : Int) (ptP k bs ts)
theorem rangeD_ints (k : Nat) : rangeD 0 k = ((List.range k).map fun (i : Nat) => (i : Int)).map D.int := by
  unfold rangeD
  rw [List.map_map]
  refine List.map_congr_left fun i _ => ?_
  show D.int (0 + (i : Int)) = D.int i
  rw [Int.zero_add]
theorem ppl_D (k : Nat) (bs : List Int) : rangeD 0 k ++ bs.map D.int = (ppl k bs).map D.int := by
  rw [rangeD_ints, ppl, List.map_append]
theorem mp_filter {l : List (Int × Int)} {q : D → Bool} {q' : Int × Int → Bool} (h : ∀ p ∈ l, q (pD p) = q' p) : ((l.map pD).filter q) = (l.filter q').map pD := by
  rw [List.filter_map]
  congr 1
  exact List.filter_congr fun p hp => h p hp
def fstI : D → Int
  | .tup [.int i, _] => i
  | _ => 0
def sndI : D → Int
  | .tup [_, .int j] => j
  | _ => 0
theorem g_part_for {k n : Nat} {ts : List (Int × Int)} (c : Co k n ts) (l : Nat) (bs : List Int) (M : MM) (hm : k + bs.length ≤ 9) : G (l + 2) .p_part_for [.int k, cD n ts, .tup (bs.map D.int)] M = some (ptD k bs ts, M) := by
  show mFun 9 (B_p_part_for (G (l + 1))) [.int k, cD n ts, .tup (bs.map D.int)] M = _
  have len := c.len
  have hk3 := c.k3
  have c1 := cD_1 n ts
  have e1 : mTupR (mEnd1 (mVar 0)) [some (.int k), some (cD n ts), some (.tup (bs.map D.int)), none, none, none, none, none, none] M = some (.tup (rangeD 0 k), M) := by
    have r : mEnd1 (mVar 0) [some (.int k), some (cD n ts), some (.tup (bs.map D.int)), none, none, none, none, none, none] M = some (((0 : Int), (k : Int)), M) := by
      simp only [mEnd1, mVar, List.getElem?_cons_zero, Option.bind_some]
      rw [if_pos (by omega)]
    unfold mTupR
    rw [r]
    show some (D.tup (rangeD 0 ((k : Int) - 0).toNat), M) = _
    rw [Int.sub_zero, Int.toNat_natCast]
  have e2 : oAdd M (.tup (rangeD 0 k)) (.tup (bs.map D.int)) = some (.tup ((ppl k bs).map D.int)) := by
    show (if (rangeD 0 k).length + (bs.map D.int).length ≤ 1000 then some (D.tup (rangeD 0 k ++ bs.map D.int)) else none) = _
    rw [if_pos (by rw [rangeD_len, List.length_map]; omega), ppl_D]
  have hpl : ((ppl k bs).map D.int).length = k + bs.length := by rw [List.length_map, ppl_len]
  obtain ⟨ks, ds, d1, d2, d3⟩ := dc_prs (r := wipeD [some (.int k), some (cD n ts), some (.tup (bs.map D.int)), some (.tup ((ppl k bs).map D.int)), none, none, none, none, none] [6]) (M := M) (by simp [wipeD]) ts [] [] rfl (by simp; omega)
  have g1 := g_pairs_of l (k + bs.length) hm M
  have h3 : lcD (tgTup 2 (tgCons (tgName 7) (tgCons (tgName 8) tgNil))) (mB (mOp oInX (mCall (G (l + 1) Fid.p_pair_of) (mCons (mOp oIx (mVar 3) (mVar 7)) (mCons (mOp oIx (mVar 3) (mVar 8)) mNil))) (mVar 4))) (mTup (mCons (mVar 7) (mCons (mVar 8) mNil)))
      (wipeD [some (.int k), some (cD n ts), some (.tup (bs.map D.int)), some (.tup ((ppl k bs).map D.int)), some (.dt ks ds), none, none, none, none] [7, 8]) ((allP (k + bs.length)).map pD) M = some ((ptP k bs ts).map pD, M) := by
    have := lcD_filter (tg := tgTup 2 (tgCons (tgName 7) (tgCons (tgName 8) tgNil))) (t := mB (mOp oInX (mCall (G (l + 1) Fid.p_pair_of) (mCons (mOp oIx (mVar 3) (mVar 7)) (mCons (mOp oIx (mVar 3) (mVar 8)) mNil))) (mVar 4))) (e := mTup (mCons (mVar 7) (mCons (mVar 8) mNil)))
      (r := wipeD [some (.int k), some (cD n ts), some (.tup (bs.map D.int)), some (.tup ((ppl k bs).map D.int)), some (.dt ks ds), none, none, none, none] [7, 8]) (M := M) (fun d => inT ts (pp k bs (fstI d)) (pp k bs (sndI d))) id (xs := (allP (k + bs.length)).map pD) fun d hd => by
      obtain ⟨p, hp, rfl⟩ := List.mem_map.mp hd
      obtain ⟨q1, q2, q3⟩ := mem_allP.mp hp
      have a1 := pp_at (k := k) (bs := bs) (i := p.1) q1 (by omega)
      have a2 := pp_at (k := k) (bs := bs) (i := p.2) (by omega) (by omega)
      have g2 := g_pair_of l (pp k bs p.1) (pp k bs p.2) M
      have i1 : oInX M (pD (prD (pp k bs p.1) (pp k bs p.2))) (.dt ks ds) = some (.bl (inT ts (pp k bs p.1) (pp k bs p.2))) := by
        show some (D.bl (look ks ds (kk (prD (pp k bs p.1) (pp k bs p.2)))).isSome) = _
        congr 2
        rw [Bool.eq_iff_iff, look_some d2, d3]
        unfold inT
        rw [decide_eq_true_iff]
        constructor
        · rintro (z | ⟨q, hq, z⟩)
          · cases z
          · rw [kk_inj z]
            exact hq
        · intro z
          exact .inr ⟨_, z, rfl⟩
      refine ⟨_, rfl, ?_, fun _ => rfl⟩
      simp only [pD] at g2 i1
      simp only [wipeD, List.set_cons_succ, List.set_cons_zero, mB, mOp, mCall, mCons, mNil, mVar, List.getElem?_cons_zero, List.getElem?_cons_succ, Option.bind_some, oIx, a1, a2, g2, i1, fstI, sndI, pD]
    rw [this, List.map_id]
    rw [mp_filter (q' := fun p => inT ts (pp k bs p.1) (pp k bs p.2)) fun p _ => rfl]
    rfl
  have hal : ((allP (k + bs.length)).map pD).length ≤ 1000 := by
    have := allP_len _ hm
    rw [List.length_map]
    omega
  have o1 : oTuple M [.lst ((ptP k bs ts).map pD)] = some (.tup ((ptP k bs ts).map pD)) := rfl
  have o2 : oLen M [.tup ((ppl k bs).map D.int)] = some (.int ((k + bs.length : Nat) : Int)) := by
    show some (D.int (((ppl k bs).map D.int).length : Int)) = _
    rw [hpl]
  have ix : oIx M (cD n ts) (.int 1) = some (.tup (ts.map pD)) := c1
  have hD : ptD k bs ts = .tup [.int ((k + bs.length : Nat) : Int), .tup ((ptP k bs ts).map pD)] := rfl
  rw [hD]
  generalize cD n ts = dc at *
  generalize (ppl k bs).map D.int = dp at *
  generalize bs.map D.int = db at *
  generalize (allP (k + bs.length)).map pD = da at *
  generalize (ptP k bs ts).map pD = dq at *
  generalize ts.map pD = dt at *
  simp only [mFun, B_p_part_for, mSeq, startD, List.map_cons, List.map_nil, List.length_cons, List.length_nil, Nat.zero_add, Nat.reduceSub, Nat.reduceAdd, List.replicate_succ, List.replicate_zero, List.cons_append, List.nil_append]
  have s1 : mAsg (mOp oAdd (mTupR (mEnd1 (mVar 0))) (mVar 2)) (tgName 3) [some (.int k), some dc, some (.tup db), none, none, none, none, none, none] M = some (.nx [some (.int k), some dc, some (.tup db), some (.tup dp), none, none, none, none, none], M) := by
    unfold mAsg mOp
    rw [e1]
    simp only [mVar, List.getElem?_cons_zero, List.getElem?_cons_succ, Option.bind_some, e2, tgName, List.set_cons_succ, List.set_cons_zero]
  have s2 : mAsg (mDc (.dt [] []) itemsT (mOp oIx (mVar 1) (mC (.int 1))) (tgName 6) mYes (mVar 6) (mC (.bl true)) [6]) (tgName 4) [some (.int k), some dc, some (.tup db), some (.tup dp), none, none, none, none, none] M =
      some (.nx [some (.int k), some dc, some (.tup db), some (.tup dp), some (.dt ks ds), none, none, none, none], M) := by
    have f : mOp oIx (mVar 1) (mC (.int 1)) [some (.int k), some dc, some (.tup db), some (.tup dp), none, none, none, none, none] M = some (.tup dt, M) := by
      simp only [mOp, mVar, mC, List.getElem?_cons_zero, List.getElem?_cons_succ, Option.bind_some, ix]
    unfold mAsg mDc
    rw [f]
    simp only [itemsT, d1, tgName, List.set_cons_succ, List.set_cons_zero]
  have s3 : mSet 5 (mLc itemsL (mCall (G (l + 1) .p_pairs_of) (mCons (mFn oLen (mCons (mVar 3) mNil)) mNil)) (tgTup 2 (tgCons (tgName 7) (tgCons (tgName 8) tgNil))) (mB (mOp oInX (mCall (G (l + 1) .p_pair_of) (mCons (mOp oIx (mVar 3) (mVar 7)) (mCons (mOp oIx (mVar 3) (mVar 8)) mNil))) (mVar 4))) (mTup (mCons (mVar 7) (mCons (mVar 8) mNil))) [7, 8])
      [some (.int k), some dc, some (.tup db), some (.tup dp), some (.dt ks ds), none, none, none, none] M = some (.nx [some (.int k), some dc, some (.tup db), some (.tup dp), some (.dt ks ds), some (.lst dq), none, none, none], M) := by
    have f : mCall (G (l + 1) .p_pairs_of) (mCons (mFn oLen (mCons (mVar 3) mNil)) mNil) [some (.int k), some dc, some (.tup db), some (.tup dp), some (.dt ks ds), none, none, none, none] M = some (.lst da, M) := by
      simp only [mCall, mCons, mNil, mFn, mVar, List.getElem?_cons_zero, List.getElem?_cons_succ, Option.bind_some, o2, g1]
    unfold mSet mLc
    rw [f]
    simp only [itemsL]
    rw [if_pos hal, h3]
    rfl
  rw [s1]
  simp only []
  rw [s2]
  simp only []
  rw [s3]
  simp only [mRet, mTup, mCons, mNil, mFn, mVar, List.getElem?_cons_zero, List.getElem?_cons_succ, Option.bind_some, o1, o2]
end MT

namespace MT
open PySem PySem.Spec PyProof.Rows L2 NL
/-! ### the law's own part -/
theorem g_Lpart {k n : Nat} {ts : List (Int × Int)} (c : Co k n ts) (l : Nat) (bs : List Int) (M : MM) (hm : k + bs.length ≤ 9) : G (l + 3) .Lpart [.int k, cD n ts, .tup (bs.map D.int)] M = some (ptD k bs ts, M) := by
  show mFun 7 (B_Lpart (G (l + 2))) [.int k, cD n ts, .tup (bs.map D.int)] M = _
  have len := c.len
  have hk3 := c.k3
  have e1 : mLstR (mEnd1 (mVar 0)) [some (.int k), some (cD n ts), some (.tup (bs.map D.int)), none, none, none, none] M = some (.lst (rangeD 0 k), M) := by
    have r : mEnd1 (mVar 0) [some (.int k), some (cD n ts), some (.tup (bs.map D.int)), none, none, none, none] M = some (((0 : Int), (k : Int)), M) := by
      simp only [mEnd1, mVar, List.getElem?_cons_zero, Option.bind_some]
      rw [if_pos (by omega)]
    unfold mLstR
    rw [r]
    show some (D.lst (rangeD 0 ((k : Int) - 0).toNat), M) = _
    rw [Int.sub_zero, Int.toNat_natCast]
  have e2 : oAdd M (.lst (rangeD 0 k)) (.lst (bs.map D.int)) = some (.lst ((ppl k bs).map D.int)) := by
    show (if (rangeD 0 k).length + (bs.map D.int).length ≤ 1000 then some (D.lst (rangeD 0 k ++ bs.map D.int)) else none) = _
    rw [if_pos (by rw [rangeD_len, List.length_map]; omega), ppl_D]
  have hpl : ((ppl k bs).map D.int).length = k + bs.length := by rw [List.length_map, ppl_len]
  have g1 : G (l + 2) .Lpairs [.int ((k + bs.length : Nat) : Int)] M = some (.lst ((allP (k + bs.length)).map pD), M) := g_Lpairs (l + 1) (k + bs.length) hm M
  have h3 : lcD (tgTup 2 (tgCons (tgName 5) (tgCons (tgName 6) tgNil))) (mB (mCall (G (l + 2) Fid.Lknows) (mCons (mVar 1) (mCons (mOp oIx (mVar 3) (mVar 5)) (mCons (mOp oIx (mVar 3) (mVar 6)) mNil))))) (mTup (mCons (mVar 5) (mCons (mVar 6) mNil)))
      (wipeD [some (.int k), some (cD n ts), some (.tup (bs.map D.int)), some (.lst ((ppl k bs).map D.int)), none, none, none] [5, 6]) ((allP (k + bs.length)).map pD) M = some ((ptP k bs ts).map pD, M) := by
    have := lcD_filter (tg := tgTup 2 (tgCons (tgName 5) (tgCons (tgName 6) tgNil))) (t := mB (mCall (G (l + 2) Fid.Lknows) (mCons (mVar 1) (mCons (mOp oIx (mVar 3) (mVar 5)) (mCons (mOp oIx (mVar 3) (mVar 6)) mNil))))) (e := mTup (mCons (mVar 5) (mCons (mVar 6) mNil)))
      (r := wipeD [some (.int k), some (cD n ts), some (.tup (bs.map D.int)), some (.lst ((ppl k bs).map D.int)), none, none, none] [5, 6]) (M := M) (fun d => inT ts (pp k bs (fstI d)) (pp k bs (sndI d))) id (xs := (allP (k + bs.length)).map pD) fun d hd => by
      obtain ⟨p, hp, rfl⟩ := List.mem_map.mp hd
      obtain ⟨q1, q2, q3⟩ := mem_allP.mp hp
      have a1 := pp_at (k := k) (bs := bs) (i := p.1) q1 (by omega)
      have a2 := pp_at (k := k) (bs := bs) (i := p.2) (by omega) (by omega)
      have g2 := g_knows l n (pp k bs p.1) (pp k bs p.2) ts M (by omega)
      refine ⟨_, rfl, ?_, fun _ => rfl⟩
      generalize cD n ts = dc at *
      simp only [wipeD, List.set_cons_succ, List.set_cons_zero, mB, mOp, mCall, mCons, mNil, mVar, List.getElem?_cons_zero, List.getElem?_cons_succ, Option.bind_some, oIx, a1, a2, g2, fstI, sndI, pD]
    rw [this, List.map_id]
    rw [mp_filter (q' := fun p => inT ts (pp k bs p.1) (pp k bs p.2)) fun p _ => rfl]
    rfl
  have hal : ((allP (k + bs.length)).map pD).length ≤ 1000 := by
    have := allP_len _ hm
    rw [List.length_map]
    omega
  have o1 : oTuple M [.lst ((ptP k bs ts).map pD)] = some (.tup ((ptP k bs ts).map pD)) := rfl
  have o2 : oLen M [.lst ((ppl k bs).map D.int)] = some (.int ((k + bs.length : Nat) : Int)) := by
    show some (D.int (((ppl k bs).map D.int).length : Int)) = _
    rw [hpl]
  have o3 : oList M [.tup (bs.map D.int)] = some (.lst (bs.map D.int)) := rfl
  have hD : ptD k bs ts = .tup [.int ((k + bs.length : Nat) : Int), .tup ((ptP k bs ts).map pD)] := rfl
  rw [hD]
  generalize cD n ts = dc at *
  generalize (ppl k bs).map D.int = dp at *
  generalize bs.map D.int = db at *
  generalize (allP (k + bs.length)).map pD = da at *
  generalize (ptP k bs ts).map pD = dq at *
  simp only [mFun, B_Lpart, mSeq, startD, List.map_cons, List.map_nil, List.length_cons, List.length_nil, Nat.zero_add, Nat.reduceSub, Nat.reduceAdd, List.replicate_succ, List.replicate_zero, List.cons_append, List.nil_append]
  have s1 : mAsg (mOp oAdd (mLstR (mEnd1 (mVar 0))) (mFn oList (mCons (mVar 2) mNil))) (tgName 3) [some (.int k), some dc, some (.tup db), none, none, none, none] M = some (.nx [some (.int k), some dc, some (.tup db), some (.lst dp), none, none, none], M) := by
    unfold mAsg mOp
    rw [e1]
    simp only [mFn, mCons, mNil, mVar, List.getElem?_cons_zero, List.getElem?_cons_succ, Option.bind_some, o3, e2, tgName, List.set_cons_succ, List.set_cons_zero]
  have s3 : mSet 4 (mLc itemsL (mCall (G (l + 2) .Lpairs) (mCons (mFn oLen (mCons (mVar 3) mNil)) mNil)) (tgTup 2 (tgCons (tgName 5) (tgCons (tgName 6) tgNil))) (mB (mCall (G (l + 2) .Lknows) (mCons (mVar 1) (mCons (mOp oIx (mVar 3) (mVar 5)) (mCons (mOp oIx (mVar 3) (mVar 6)) mNil))))) (mTup (mCons (mVar 5) (mCons (mVar 6) mNil))) [5, 6])
      [some (.int k), some dc, some (.tup db), some (.lst dp), none, none, none] M = some (.nx [some (.int k), some dc, some (.tup db), some (.lst dp), some (.lst dq), none, none], M) := by
    have f : mCall (G (l + 2) .Lpairs) (mCons (mFn oLen (mCons (mVar 3) mNil)) mNil) [some (.int k), some dc, some (.tup db), some (.lst dp), none, none, none] M = some (.lst da, M) := by
      simp only [mCall, mCons, mNil, mFn, mVar, List.getElem?_cons_zero, List.getElem?_cons_succ, Option.bind_some, o2, g1]
    unfold mSet mLc
    rw [f]
    simp only [itemsL]
    rw [if_pos hal, h3]
    rfl
  rw [s1]
  simp only []
  rw [s3]
  simp only [mRet, mTup, mCons, mNil, mFn, mVar, List.getElem?_cons_zero, List.getElem?_cons_succ, Option.bind_some, o1, o2]
theorem g_part_of {k n : Nat} {ts : List (Int × Int)} (c : Co k n ts) (l : Nat) (bs : List Int) (M : MM) (hm : k + bs.length ≤ 9) (nd : bs.Nodup) (hb : ∀ b ∈ bs, (k : Int) ≤ b ∧ b < n) : G (l + 7) .p_part_of [.int k, cD n ts, .tup (bs.map D.int)] M = some (ptD k bs ts, M) := by
  show mFun 3 (B_p_part_of (G (l + 6))) [.int k, cD n ts, .tup (bs.map D.int)] M = _
  have len := c.len
  have q1 := g_check_company c.nm l (cD n ts) M (good_cD (by omega)) c.co
  have q2 : G (l + 6) .p_check_besides [.int k, cD n ts, .tup (bs.map D.int)] M = some (.non, M) := g_check_besides (l + 2) k n bs ts M nd hb (by omega)
  have q3 : G (l + 6) .p_part_for [.int k, cD n ts, .tup (bs.map D.int)] M = some (ptD k bs ts, M) := g_part_for c (l + 4) bs M hm
  generalize cD n ts = dc at *
  generalize bs.map D.int = db at *
  generalize ptD k bs ts = dt at *
  simp [mFun, mSeq, mRet, mDrop, mIfS, mNever, mSkip, mSet, mAsg, mPar2, mPar3, tgName, tgTup, tgCons, tgNil, mVar, mC, mNil, mCons, mTup, mLst, mOp, mUn, mB, mAnd, mOr, mNot, mIf, mChain, mFn, mCall, mIs, mFor, itemsT, itemsL, mYes, mPart, mNo, mSl, startD, tyd, oCmp, oI, oLt, oLtX, oLe, oGt, oGe, oSub, oLen, oIx, isT, B_p_part_of, q1, q2, q3]
/-! ### some besides -/
theorem cleans_ints (n : Nat) : ∀ xs : List Int, NL.cleans n (xs.map D.int) = true
  | [] => rfl
  | x :: xs => by
    show (true && NL.cleans n (xs.map D.int)) = true
    rw [cleans_ints n xs]
    rfl
theorem tolds_ints (n : Nat) (o : D) : ∀ xs : List Int, NL.tolds n o (xs.map D.int) = xs.map D.int
  | [] => rfl
  | x :: xs => by
    show D.int x :: NL.tolds n o (xs.map D.int) = _
    rw [tolds_ints n o xs]
    rfl
theorem perm_erase {α : Type} : ∀ {l : List α} {i : Nat} (h : i < l.length), (l[i] :: l.eraseIdx i).Perm l
  | x :: xs, 0, _ => List.Perm.refl _
  | x :: xs, i + 1, h => by
    have h' : i < xs.length := by simpa using h
    have := perm_erase h'
    show (xs[i] :: x :: xs.eraseIdx i).Perm (x :: xs)
    exact (List.Perm.swap x xs[i] _).trans (this.cons x)
theorem map_erase : ∀ (ls : List Int) (r : Nat), (ls.map D.int).eraseIdx r = (ls.eraseIdx r).map D.int
  | [], _ => rfl
  | x :: xs, 0 => rfl
  | x :: xs, r + 1 => by
    show D.int x :: (xs.map D.int).eraseIdx r = D.int x :: (xs.eraseIdx r).map D.int
    rw [map_erase xs r]
def sbE (k : Nat) (dc : D) (fs : List Int) (e5 : Option D) : En := [some (.mu 0), some (.int k), some dc, some (.mu 1), some (.tup (fs.map D.int)), e5]
def sbB (cl : Fid → FC) : FS := (mAsg (mOp oAdd (mVar 4) (mTup (mCons (mPop (mVar 3) (mCall (cl .Lroll) (mCons (mVar 0) (mCons (mFn oLen (mCons (mVar 3) mNil)) mNil)))) mNil))) (tgName 4))
theorem sb_step (l k : Nat) (dc : D) (fs ls : List Int) (e5 : Option D) {M : MM} (c : Cup [.lst (ls.map D.int)] M) (h1 : 1 ≤ ls.length) (h2 : ls.length ≤ 100) (h3 : fs.length ≤ 100) :
    ∃ (fs' ls' : List Int) (M' : MM), sbB (G (l + 1)) (sbE k dc fs e5) M = some (.nx (sbE k dc fs' e5), M') ∧ Cup [.lst (ls'.map D.int)] M' ∧ ls'.length + 1 = ls.length ∧ fs'.length = fs.length + 1 ∧ (fs' ++ ls').Perm (fs ++ ls) := by
  obtain ⟨r, M', e, hr, c'⟩ := cup_roll l c ls.length h1 (by omega)
  obtain ⟨a, b, rfl, ha, hb, hb2⟩ := c
  obtain ⟨a', b', rfl, ha', hb', hb2'⟩ := c'
  have at_ : (ls.map D.int)[r]? = some (.int ls[r]) := by rw [List.getElem?_map, List.getElem?_eq_getElem hr]; rfl
  have m1 : (D.lst [.int a', .int b'] :: [D.lst (ls.map D.int)])[1]? = some (.lst (ls.map D.int)) := rfl
  have m0 : (D.lst [.int a, .int b] :: [D.lst (ls.map D.int)])[1]? = some (.lst (ls.map D.int)) := rfl
  refine ⟨fs ++ [ls[r]], ls.eraseIdx r, .lst [.int a', .int b'] :: [.lst ((ls.eraseIdx r).map D.int)], ?_, ⟨a', b', rfl, ha', hb', hb2'⟩, ?_, by simp, ?_⟩
  · have ol : oLen (D.lst [.int a, .int b] :: [D.lst (ls.map D.int)]) [.mu 1] = some (.int (ls.length : Nat)) := by
      show some (D.int ((ls.map D.int).length : Int)) = _
      rw [List.length_map]
    have cd : (0 : Int) ≤ (r : Int) ∧ (r : Int) < ((ls.map D.int).length : Int) ∧ (ls.map D.int).length ≤ 1000 := by
      rw [List.length_map]
      omega
    have er : (ls.map D.int).eraseIdx r = (ls.eraseIdx r).map D.int := map_erase ls r
    have op : mPop (mVar 3) (mCall (G (l + 1) .Lroll) (mCons (mVar 0) (mCons (mFn oLen (mCons (mVar 3) mNil)) mNil))) (sbE k dc fs e5) (.lst [.int a, .int b] :: [.lst (ls.map D.int)]) = some (.int ls[r], .lst [.int a', .int b'] :: [.lst ((ls.eraseIdx r).map D.int)]) := by
      simp only [mPop, sbE, mVar, mCall, mCons, mNil, mFn, List.getElem?_cons_zero, List.getElem?_cons_succ, Option.bind_some, ol, e]
      rw [if_pos cd, Int.toNat_natCast, at_]
      simp only [er, List.set_cons_succ, List.set_cons_zero]
    have oa : oAdd (.lst [.int a', .int b'] :: [.lst ((ls.eraseIdx r).map D.int)]) (.tup (fs.map D.int)) (.tup [.int ls[r]]) = some (.tup ((fs ++ [ls[r]]).map D.int)) := by
      show (if (fs.map D.int).length + [D.int ls[r]].length ≤ 1000 then some (D.tup (fs.map D.int ++ [D.int ls[r]])) else none) = _
      rw [if_pos (by simp; omega), List.map_append]
      rfl
    have v4 : mVar 4 (sbE k dc fs e5) (.lst [.int a, .int b] :: [.lst (ls.map D.int)]) = some (.tup (fs.map D.int), .lst [.int a, .int b] :: [.lst (ls.map D.int)]) := rfl
    unfold sbB mAsg mOp
    rw [v4]
    simp only [mTup, mCons, mNil]
    rw [op]
    simp only [oa, tgName, sbE, List.set_cons_succ, List.set_cons_zero]
  · rw [List.length_eraseIdx_of_lt hr]
    omega
  · rw [List.append_assoc]
    exact List.Perm.append_left _ (perm_erase hr)
theorem sb_loop (l k : Nat) (dc : D) : ∀ (ds : List D) (fs ls : List Int) (e5 : Option D) {M : MM}, Cup [.lst (ls.map D.int)] M → ds.length ≤ ls.length → fs.length + ls.length ≤ 100 →
    ∃ (fs' ls' : List Int) (e5' : Option D) (M' : MM), forD (tgName 5) (sbB (G (l + 1))) ds (sbE k dc fs e5) M = some (.nx (sbE k dc fs' e5'), M') ∧ Cup [.lst (ls'.map D.int)] M' ∧ (fs' ++ ls').Perm (fs ++ ls)
  | [], fs, ls, e5, M, c, _, _ => ⟨fs, ls, e5, M, rfl, c, List.Perm.refl _⟩
  | d :: ds, fs, ls, e5, M, c, h1, h2 => by
    simp only [List.length_cons] at h1
    obtain ⟨fs1, ls1, M1, s1, c1, l1, l2, p1⟩ := sb_step l k dc fs ls (some d) c (by omega) (by omega) (by omega)
    obtain ⟨fs2, ls2, e2, M2, s2, c2, p2⟩ := sb_loop l k dc ds fs1 ls1 (some d) c1 (by omega) (by omega)
    refine ⟨fs2, ls2, e2, M2, ?_, c2, p2.trans p1⟩
    have t : tgName 5 d (sbE k dc fs e5) = some (sbE k dc fs (some d)) := rfl
    unfold forD
    rw [t]
    simp only []
    rw [s1]
    exact s2
theorem g_some_besides {k n : Nat} {ts : List (Int × Int)} (co : Co k n ts) (l : Nat) {M : MM} (c : Cup [] M) :
    ∃ (fs : List Int) (M' : MM), G (l + 2) .Lsome_besides [.mu 0, .int k, cD n ts] M = some (.tup (fs.map D.int), M') ∧ Cup [] M' ∧ fs.Nodup ∧ (∀ x ∈ fs, (k : Int) ≤ x ∧ x < n) ∧ k + fs.length ≤ n := by
  have n9 := co.n9
  have kn := co.kn
  let base : List Int := (List.range (n - k)).map fun (i : Nat) => (k : Int) + (i : Nat)
  have hbase : base.length = n - k := by simp [base]
  have nd : base.Nodup := by
    refine List.Pairwise.map _ (fun a b h => ?_) (List.nodup_range (n := n - k))
    omega
  have inb : ∀ x ∈ base, (k : Int) ≤ x ∧ x < n := fun x hx => by
    obtain ⟨i, hi, rfl⟩ := List.mem_map.mp hx
    have := List.mem_range.mp hi
    omega
  have rb : rangeD k (n - k) = base.map D.int := by
    unfold rangeD
    rw [List.map_map]
    rfl
  obtain ⟨a, b, rfl, ha, hb, hb2⟩ := c
  have c1 : Cup [.lst (base.map D.int)] (.lst [.int a, .int b] :: [.lst (base.map D.int)]) := ⟨a, b, rfl, ha, hb, hb2⟩
  obtain ⟨r, M2, e, hr, c2⟩ := cup_roll l c1 (base.length + 1) (by omega) (by omega)
  obtain ⟨fs, ls, e5, M3, s3, c3, p3⟩ := sb_loop l k (cD n ts) (rangeD 0 r) [] base none c2 (by rw [rangeD_len]; omega) (by simp; omega)
  rw [List.nil_append] at p3
  have ndf : (fs ++ ls).Nodup := p3.nodup_iff.mpr nd
  obtain ⟨a3, b3, rfl, ha3, hb3, hb33⟩ := c3
  refine ⟨fs, [.lst [.int a3, .int b3]], ?_, ⟨a3, b3, rfl, ha3, hb3, hb33⟩, (List.nodup_append.mp ndf).1, fun x hx => inb x (p3.mem_iff.mp (List.mem_append_left _ hx)), ?_⟩
  · show mFun 6 (B_Lsome_besides (G (l + 1))) [.mu 0, .int k, cD n ts] [.lst [.int a, .int b]] = _
    have f1 : mLstR (mEnd2 (mVar 1) (mOp oIx (mVar 2) (mC (.int 0)))) [some (.mu 0), some (.int k), some (cD n ts), none, none, none] [.lst [.int a, .int b]] = some (.lst (base.map D.int), [.lst [.int a, .int b]]) := by
      have r : mEnd2 (mVar 1) (mOp oIx (mVar 2) (mC (.int 0))) [some (.mu 0), some (.int k), some (cD n ts), none, none, none] [.lst [.int a, .int b]] = some (((k : Int), (n : Int)), [.lst [.int a, .int b]]) := by
        have i0 : oIx [.lst [.int a, .int b]] (cD n ts) (.int 0) = some (.int n) := cD_0 n ts
        simp only [mEnd2, mOp, mVar, mC, List.getElem?_cons_zero, List.getElem?_cons_succ, Option.bind_some, i0]
        rw [if_pos (by omega)]
      unfold mLstR
      rw [r]
      show some (D.lst (rangeD k ((n : Int) - (k : Int)).toNat), _) = _
      have : ((n : Int) - (k : Int)).toNat = n - k := by omega
      rw [this, rb]
    have ol : oLen (.lst [.int a, .int b] :: [.lst (base.map D.int)]) [.mu 1] = some (.int (base.length : Nat)) := by
      show some (D.int ((base.map D.int).length : Int)) = _
      rw [List.length_map]
    have e' : G (l + 1) .Lroll [.mu 0, .int ((base.length : Nat) + 1)] (.lst [.int a, .int b] :: [.lst (base.map D.int)]) = some (.int r, M2) := by
      have q : (((base.length : Nat) : Int) + 1) = ((base.length + 1 : Nat) : Int) := by omega
      rw [q]
      exact e
    have oa : oAdd (.lst [.int a, .int b] :: [.lst (base.map D.int)]) (.int (base.length : Nat)) (.int 1) = some (.int ((base.length : Nat) + 1)) := rfl
    have rg : rng1 [.int (r : Int)] = some (0, (r : Int)) := by
      show (if (r : Int).natAbs ≤ 1000000 then some ((0 : Int), (r : Int)) else none) = _
      rw [if_pos (by omega)]
    have er : ((r : Int) - 0).toNat = r := by omega
    have lp : mForR rng1 (mCons (mCall (G (l + 1) .Lroll) (mCons (mVar 0) (mCons (mOp oAdd (mFn oLen (mCons (mVar 3) mNil)) (mC (.int 1))) mNil))) mNil) (tgName 5) (sbB (G (l + 1))) (sbE k (cD n ts) [] none) (.lst [.int a, .int b] :: [.lst (base.map D.int)]) = some (.nx (sbE k (cD n ts) fs e5), .lst [.int a3, .int b3] :: [.lst (ls.map D.int)]) := by
      have v0 : mVar 0 (sbE k (cD n ts) [] none) (.lst [.int a, .int b] :: [.lst (base.map D.int)]) = some (.mu 0, .lst [.int a, .int b] :: [.lst (base.map D.int)]) := rfl
      have v3 : mVar 3 (sbE k (cD n ts) [] none) (.lst [.int a, .int b] :: [.lst (base.map D.int)]) = some (.mu 1, .lst [.int a, .int b] :: [.lst (base.map D.int)]) := rfl
      unfold mForR
      simp only [mCons, mNil, mCall, mOp, mFn, mC, v0, v3, ol, oa, e', rg, er]
      exact s3
    have k0 : mSeq (mForR rng1 (mCons (mCall (G (l + 1) .Lroll) (mCons (mVar 0) (mCons (mOp oAdd (mFn oLen (mCons (mVar 3) mNil)) (mC (.int 1))) mNil))) mNil) (tgName 5) (sbB (G (l + 1)))) (mRet (mVar 4)) (sbE k (cD n ts) [] none) (.lst [.int a, .int b] :: [.lst (base.map D.int)]) = some (.rt (.tup (fs.map D.int)), .lst [.int a3, .int b3] :: [.lst (ls.map D.int)]) := by
      unfold mSeq
      rw [lp]
      rfl
    have st : startD 6 [.mu 0, .int k, cD n ts] = [some (.mu 0), some (.int k), some (cD n ts), none, none, none] := rfl
    have tup0 : mTup mNil [some (.mu 0), some (.int k), some (cD n ts), none, none, none] ([.lst [.int a, .int b]] ++ [.lst (base.map D.int)]) = some (.tup [], .lst [.int a, .int b] :: [.lst (base.map D.int)]) := rfl
    have env : ((([some (.mu 0), some (.int k), some (cD n ts), none, none, none] : En).set 3 (some (.mu ([D.lst [.int a, .int b]] : MM).length))).set 4 (some (.tup []))) = sbE k (cD n ts) [] none := rfl
    have cl0 : (NL.clean ([D.lst [.int a, .int b]] : MM).length (.lst (ls.map D.int)) && ((D.lst [.int a3, .int b3] :: [D.lst (ls.map D.int)]).take ([D.lst [.int a, .int b]] : MM).length).all (NL.clean ([D.lst [.int a, .int b]] : MM).length)) = true := by
      show (NL.cleans 1 (ls.map D.int) && true) = true
      rw [cleans_ints]
      rfl
    have m3 : (D.lst [.int a3, .int b3] :: [D.lst (ls.map D.int)])[([D.lst [.int a, .int b]] : MM).length]? = some (.lst (ls.map D.int)) := rfl
    have tl : NL.told ([D.lst [.int a, .int b]] : MM).length (.lst (ls.map D.int)) (.tup (fs.map D.int)) = .tup (fs.map D.int) := by
      show D.tup (NL.tolds 1 (.lst (ls.map D.int)) (fs.map D.int)) = _
      rw [tolds_ints]
    have hB : B_Lsome_besides (G (l + 1)) = mNewP 3 4 (mLstR (mEnd2 (mVar 1) (mOp oIx (mVar 2) (mC (.int 0))))) (mTup mNil) (mSeq (mForR rng1 (mCons (mCall (G (l + 1) .Lroll) (mCons (mVar 0) (mCons (mOp oAdd (mFn oLen (mCons (mVar 3) mNil)) (mC (.int 1))) mNil))) mNil) (tgName 5) (sbB (G (l + 1)))) (mRet (mVar 4))) := rfl
    unfold mFun
    rw [hB, st]
    unfold mNewP
    rw [f1]
    simp only []
    rw [tup0]
    simp only []
    rw [env, k0]
    simp only []
    rw [m3]
    simp only []
    rw [if_pos cl0, tl]
    rfl
  · have := p3.length_eq
    rw [List.length_append] at this
    omega
end MT

namespace MT
open PySem PySem.Spec PyProof.Rows L2 NL
/-! ### a company drawn -/
theorem lc_sub {tg : FT} {t : FB} {e : FE} {r : En} {R : MM} : ∀ {ps : List (Int × Int)}, (∀ p ∈ ps, ∀ M, Cup R M → ∃ r1 b M', tg (pD p) r = some r1 ∧ t r1 M = some (b, M') ∧ Cup R M' ∧ e r1 M' = some (pD p, M')) → ∀ {M : MM}, Cup R M →
    ∃ (qs : List (Int × Int)) (M' : MM), lcD tg t e r (ps.map pD) M = some (qs.map pD, M') ∧ qs.Sublist ps ∧ Cup R M'
  | [], _, M, c => ⟨[], M, rfl, List.Sublist.refl _, c⟩
  | p :: ps, h, M, c => by
    obtain ⟨r1, b, M1, h1, h2, c1, h3⟩ := h p List.mem_cons_self M c
    obtain ⟨qs, M2, h4, hs, c2⟩ := lc_sub (fun q hq => h q (List.mem_cons_of_mem _ hq)) c1
    cases b with
    | true =>
      refine ⟨p :: qs, M2, ?_, hs.cons₂ p, c2⟩
      show lcD tg t e r (pD p :: ps.map pD) M = _
      unfold lcD
      rw [h1]
      simp only []
      rw [h2]
      simp only []
      rw [h3]
      simp only []
      rw [h4]
      rfl
    | false =>
      refine ⟨qs, M2, ?_, hs.cons p, c2⟩
      show lcD tg t e r (pD p :: ps.map pD) M = _
      unfold lcD
      rw [h1]
      simp only []
      rw [h2]
      exact h4
theorem co_sub {k n : Nat} (k1 : 1 ≤ k) (k3 : k ≤ 3) (kn : k ≤ n) (n9 : n ≤ 9) {ts : List (Int × Int)} (h : ts.Sublist (allP n)) : Co k n ts :=
  ⟨k1, k3, kn, n9, fun p hp => mem_allP.mp (h.subset hp), ordB_iff.mpr ((ordB_iff.mp (allP_ord n n9)).sublist h)⟩
theorem allP_len8 : ∀ n, n ≤ 8 → (allP n).length ≤ 28 := by decide +kernel
theorem g_Lcompany (l k : Nat) (k1 : 1 ≤ k) (k3 : k ≤ 3) {M : MM} (c : Cup [] M) :
    ∃ (n : Nat) (ts : List (Int × Int)) (M' : MM), G (l + 2) .Lcompany [.mu 0, .int k, .int 0, .int 5] M = some (cD n ts, M') ∧ Co k n ts ∧ ts.length ≤ 28 ∧ Cup [] M' := by
  obtain ⟨r, M1, e1, hr, c1⟩ := cup_roll l c 6 (by decide) (by decide)
  obtain ⟨w, M2, e2, hw, c2⟩ := cup_roll l c1 8 (by decide) (by decide)
  have hn : k + r ≤ 8 := by omega
  have p1 : G (l + 1) .Lpairs [.int ((k + r : Nat) : Int)] M2 = some (.lst ((allP (k + r)).map pD), M2) := g_Lpairs l (k + r) (by omega) M2
  have pl := allP_len8 (k + r) hn
  have e1' : G (l + 1) .Lroll [.mu 0, .int 6] M = some (.int r, M1) := e1
  have e2' : G (l + 1) .Lroll [.mu 0, .int 8] M1 = some (.int w, M2) := e2
  have ea : ∀ N : MM, oAdd N (.int ((k : Int) + 0)) (.int r) = some (.int ((k + r : Nat) : Int)) := fun N => by
    show some (D.int ((k : Int) + 0 + r)) = _
    congr 2
  have s1 : mPar2 4 5 (mCons (mOp oAdd (mOp oAdd (mVar 1) (mVar 2)) (mCall (G (l + 1) .Lroll) (mCons (mVar 0) (mCons (mOp oAdd (mOp oSub (mVar 3) (mVar 2)) (mC (.int 1))) mNil)))) (mCons (mCall (G (l + 1) .Lroll) (mCons (mVar 0) (mCons (mC (.int 8)) mNil))) mNil))
      [some (.mu 0), some (.int k), some (.int 0), some (.int 5), none, none, none] M = some (.nx [some (.mu 0), some (.int k), some (.int 0), some (.int 5), some (.int ((k + r : Nat) : Int)), some (.int w), none], M2) := by
    have a1 : oAdd M (.int k) (.int 0) = some (.int ((k : Int) + 0)) := rfl
    have a2 : oSub M (.int 5) (.int 0) = some (.int 5) := rfl
    have a3 : oAdd M (.int 5) (.int 1) = some (.int 6) := rfl
    simp only [mPar2, mCons, mNil, mOp, mCall, mVar, mC, List.getElem?_cons_zero, List.getElem?_cons_succ, Option.bind_some, a1, a2, a3, e1', e2', ea, List.set_cons_succ, List.set_cons_zero]
  by_cases h2 : w < 2
  · have lt : oLtX M2 (.int w) (.int 2) = some (.bl true) := by
      show some (D.bl (decide ((w : Int) < 2))) = _
      rw [decide_eq_true (by omega)]
    by_cases h0 : w = 0
    · refine ⟨k + r, allP (k + r), M2, ?_, co_sub k1 k3 (by omega) (by omega) (List.Sublist.refl _), pl, c2⟩
      show mFun 7 (B_Lcompany (G (l + 1))) [.mu 0, .int k, .int 0, .int 5] M = _
      have q : oEq M2 (.int w) (.int 0) = some (.bl true) := by subst h0; rfl
      have o1 : oTuple M2 [.lst ((allP (k + r)).map pD)] = some (.tup ((allP (k + r)).map pD)) := rfl
      simp only [mFun, B_Lcompany, mSeq, startD, List.map_cons, List.map_nil, List.length_cons, List.length_nil, Nat.zero_add, Nat.reduceSub, Nat.reduceAdd, List.replicate_succ, List.replicate_zero, List.cons_append, List.nil_append]
      rw [s1]
      simp only [mIfS, mB, mOp, mVar, mC, mRet, mTup, mCons, mNil, mIf, mFn, mCall, List.getElem?_cons_zero, List.getElem?_cons_succ, Option.bind_some, lt, q, p1, o1, cD]
    · refine ⟨k + r, [], M2, ?_, co_sub k1 k3 (by omega) (by omega) (List.nil_sublist _), by simp, c2⟩
      show mFun 7 (B_Lcompany (G (l + 1))) [.mu 0, .int k, .int 0, .int 5] M = _
      have q : oEq M2 (.int w) (.int 0) = some (.bl false) := by
        have : w = 1 := by omega
        subst this
        rfl
      simp only [mFun, B_Lcompany, mSeq, startD, List.map_cons, List.map_nil, List.length_cons, List.length_nil, Nat.zero_add, Nat.reduceSub, Nat.reduceAdd, List.replicate_succ, List.replicate_zero, List.cons_append, List.nil_append]
      rw [s1]
      simp only [mIfS, mB, mOp, mVar, mC, mRet, mTup, mCons, mNil, mIf, mFn, mCall, List.getElem?_cons_zero, List.getElem?_cons_succ, Option.bind_some, lt, q, cD, List.map_nil]
  · have lt : oLtX M2 (.int w) (.int 2) = some (.bl false) := by
      show some (D.bl (decide ((w : Int) < 2))) = _
      rw [decide_eq_false (by omega)]
    obtain ⟨qs, M3, h4, hs, c3⟩ := lc_sub (R := []) (tg := tgName 6) (t := mB (mOp oEq (mCall (G (l + 1) Fid.Lroll) (mCons (mVar 0) (mCons (mC (.int 2)) mNil))) (mC (.int 0)))) (e := mVar 6)
      (r := wipeD [some (.mu 0), some (.int k), some (.int 0), some (.int 5), some (.int ((k + r : Nat) : Int)), some (.int w), none] [6]) (ps := allP (k + r)) (fun p hp N cN => by
        obtain ⟨x, N', ex, hx, cN'⟩ := cup_roll l cN 2 (by decide) (by decide)
        have ex' : G (l + 1) .Lroll [.mu 0, .int 2] N = some (.int x, N') := ex
        refine ⟨_, (x : Int) == 0, N', rfl, ?_, cN', rfl⟩
        have q : oEq N' (.int x) (.int 0) = some (.bl ((x : Int) == 0)) := rfl
        simp only [wipeD, List.set_cons_succ, List.set_cons_zero, mB, mOp, mCall, mCons, mNil, mVar, mC, List.getElem?_cons_zero, List.getElem?_cons_succ, Option.bind_some, ex', q]) c2
    refine ⟨k + r, qs, M3, ?_, co_sub k1 k3 (by omega) (by omega) hs, Nat.le_trans hs.length_le pl, c3⟩
    show mFun 7 (B_Lcompany (G (l + 1))) [.mu 0, .int k, .int 0, .int 5] M = _
    have o1 : oTuple M3 [.lst (qs.map pD)] = some (.tup (qs.map pD)) := rfl
    have hal : ((allP (k + r)).map pD).length ≤ 1000 := by
      rw [List.length_map]
      omega
    have lc : mLc itemsL (mCall (G (l + 1) .Lpairs) (mCons (mVar 4) mNil)) (tgName 6) (mB (mOp oEq (mCall (G (l + 1) .Lroll) (mCons (mVar 0) (mCons (mC (.int 2)) mNil))) (mC (.int 0)))) (mVar 6) [6]
        [some (.mu 0), some (.int k), some (.int 0), some (.int 5), some (.int ((k + r : Nat) : Int)), some (.int w), none] M2 = some (.lst (qs.map pD), M3) := by
      have f : mCall (G (l + 1) .Lpairs) (mCons (mVar 4) mNil) [some (.mu 0), some (.int k), some (.int 0), some (.int 5), some (.int ((k + r : Nat) : Int)), some (.int w), none] M2 = some (.lst ((allP (k + r)).map pD), M2) := by
        simp only [mCall, mCons, mNil, mVar, List.getElem?_cons_zero, List.getElem?_cons_succ, Option.bind_some, p1]
      unfold mLc
      rw [f]
      simp only [itemsL]
      rw [if_pos hal, h4]
    simp only [mFun, B_Lcompany, mSeq, startD, List.map_cons, List.map_nil, List.length_cons, List.length_nil, Nat.zero_add, Nat.reduceSub, Nat.reduceAdd, List.replicate_succ, List.replicate_zero, List.cons_append, List.nil_append]
    rw [s1]
    simp only [mIfS, mB, mOp, mVar, mC, mSkip, mRet, mTup, mCons, mNil, mFn, List.getElem?_cons_zero, List.getElem?_cons_succ, Option.bind_some, lt]
    simp only [lc, o1, cD]
end MT

namespace MT
open PySem PySem.Spec PyProof.Rows L2 NL
/-! ### a value bent -/
theorem mem_cut {x : D} {xs : List D} {lo hi : Option Int} (h : x ∈ NL.cutD xs lo hi) : x ∈ xs := List.mem_of_mem_drop (List.mem_of_mem_take h)
theorem len_cut {xs : List D} {lo hi : Option Int} : (NL.cutD xs lo hi).length ≤ xs.length := by
  unfold NL.cutD
  rw [List.length_take, List.length_drop]
  omega
def LO (n : Int) : List D := [.int (-1), .int 0, .int 1, .int 2, .int n, .int (n - 1), .non, .bl true, .str "0", .int 10]
def LT (n : Int) (odd : D) : List D := [.tup [.int 0, odd], .tup [odd, .int 1], .tup [.int 1, .int 0], .tup [.int 0, .int 0], .tup [.int 0, .int 1, .int 2], .lst [.int 0, .int 1], odd, .tup [.int 0, .int (n - 1)]]
def LS (n : Int) (t : List D) (odd tie : D) (a : Int) : List D := [.tup [.int n, .tup (NL.cutD t none (some a) ++ [tie] ++ NL.cutD t (some a) none)], .tup [.int n, .tup (NL.cutD t none (some a) ++ [tie] ++ NL.cutD t (some (a + 1)) none)], .tup [odd, .tup t], .tup [.int n, .tup t.reverse], .tup [.int (n - 1), .tup t]]
def LR (n : Int) (t : List D) : List D := [.tup [.int (n + 1), .tup t], .tup [.int n, .lst t], .lst [.int n, .tup t], .tup [.int n], .non, .tup [.tup t, .int n], .tup [.int n, .tup (t ++ NL.cutD t (some (-1)) none)]]
theorem good_LO {n : Int} {d : D} (h : d ∈ LO n) : good 0 d = true := by
  simp only [LO, List.mem_cons, List.not_mem_nil, or_false] at h
  rcases h with rfl | rfl | rfl | rfl | rfl | rfl | rfl | rfl | rfl | rfl
  all_goals first | rfl | decide +kernel
theorem good_tupL {k : Nat} {xs : List D} (h : ∀ x ∈ xs, good k x = true) (hl : xs.length ≤ 1000) : good (k + 1) (.tup xs) = true := by
  simp only [good, Bool.and_eq_true, List.all_eq_true, decide_eq_true_eq]
  exact ⟨hl, h⟩
theorem good_lstL {k : Nat} {xs : List D} (h : ∀ x ∈ xs, good k x = true) (hl : xs.length ≤ 1000) : good (k + 1) (.lst xs) = true := by
  simp only [good, Bool.and_eq_true, List.all_eq_true, decide_eq_true_eq]
  exact ⟨hl, h⟩
theorem good_LT {n : Int} {odd d : D} (ho : good 0 odd = true) (h : d ∈ LT n odd) : good 1 d = true := by
  have i0 : ∀ i : Int, good 0 (.int i) = true := fun _ => rfl
  simp only [LT, List.mem_cons, List.not_mem_nil, or_false] at h
  rcases h with rfl | rfl | rfl | rfl | rfl | rfl | rfl | rfl
  · exact good_tupL (by simp [ho, i0]) (by simp)
  · exact good_tupL (by simp [ho, i0]) (by simp)
  · rfl
  · rfl
  · rfl
  · rfl
  · exact good_mono ho (by decide)
  · exact good_tupL (by simp [i0]) (by simp)
/-- good, and not too long -/
def Bt (d : D) : Prop := good 4 d = true ∧ ∀ p xs, d = .tup [p, .tup xs] → xs.length < 64
theorem bt_two {p : D} {xs : List D} (hp : good 3 p = true) (hx : ∀ x ∈ xs, good 2 x = true) (hl : xs.length < 64) : Bt (.tup [p, .tup xs]) := by
  refine ⟨good_tupL (fun x hx' => ?_) (by simp), fun p' xs' e => ?_⟩
  · simp only [List.mem_cons, List.not_mem_nil, or_false] at hx'
    rcases hx' with rfl | rfl
    · exact hp
    · exact good_tupL hx (by omega)
  · injection e with e
    injection e with _ e
    injection e with e _
    injection e with e
    rw [← e]
    exact hl
theorem bt_LS {n : Int} {t : List D} {odd tie d : D} {a : Int} (ho : good 0 odd = true) (ht : good 1 tie = true) (hg : ∀ x ∈ t, good 2 x = true) (hl : t.length ≤ 28) (h : d ∈ LS n t odd tie a) : Bt d := by
  have i3 : ∀ i : Int, good 3 (.int i) = true := fun _ => rfl
  have g2 : good 2 tie = true := good_mono ht (by decide)
  have l1 := len_cut (xs := t) (lo := none) (hi := some a)
  have l2 := len_cut (xs := t) (lo := some a) (hi := none)
  have l3 := len_cut (xs := t) (lo := some (a + 1)) (hi := none)
  simp only [LS, List.mem_cons, List.not_mem_nil, or_false] at h
  rcases h with rfl | rfl | rfl | rfl | rfl
  · refine bt_two (i3 _) (fun x hx => ?_) (by simp; omega)
    simp only [List.mem_append, List.mem_singleton] at hx
    rcases hx with (hx | hx) | hx
    · exact hg x (mem_cut hx)
    · rw [hx]; exact g2
    · exact hg x (mem_cut hx)
  · refine bt_two (i3 _) (fun x hx => ?_) (by simp; omega)
    simp only [List.mem_append, List.mem_singleton] at hx
    rcases hx with (hx | hx) | hx
    · exact hg x (mem_cut hx)
    · rw [hx]; exact g2
    · exact hg x (mem_cut hx)
  · exact bt_two (good_mono ho (by decide)) hg (by omega)
  · exact bt_two (i3 _) (fun x hx => hg x (List.mem_reverse.mp hx)) (by rw [List.length_reverse]; omega)
  · exact bt_two (i3 _) hg (by omega)
theorem bt_LR {n : Int} {t : List D} {d : D} (hg : ∀ x ∈ t, good 2 x = true) (hl : t.length ≤ 28) (h : d ∈ LR n t) : Bt d := by
  have i3 : ∀ i : Int, good 3 (.int i) = true := fun _ => rfl
  have l2 := len_cut (xs := t) (lo := some (-1)) (hi := none)
  have gt : good 3 (.tup t) = true := good_tupL hg (by omega)
  have gl : good 3 (.lst t) = true := good_lstL hg (by omega)
  simp only [LR, List.mem_cons, List.not_mem_nil, or_false] at h
  rcases h with rfl | rfl | rfl | rfl | rfl | rfl | rfl
  · exact bt_two (i3 _) hg (by omega)
  · exact ⟨good_tupL (by simp [i3, gl]) (by simp), fun p xs e => by cases e⟩
  · exact ⟨good_lstL (by simp [i3, gt]) (by simp), fun p xs e => by cases e⟩
  · exact ⟨good_tupL (by simp [i3]) (by simp), fun p xs e => by cases e⟩
  · exact ⟨rfl, fun p xs e => by cases e⟩
  · exact ⟨good_tupL (by simp [i3, gt]) (by simp), fun p xs e => by cases e⟩
  · refine bt_two (i3 _) (fun x hx => ?_) (by simp; omega)
    rcases List.mem_append.mp hx with hx | hx
    · exact hg x hx
    · exact hg x (mem_cut hx)
theorem oAdd_tt {M : MM} {a b : List D} (h : a.length + b.length ≤ 1000) : oAdd M (.tup a) (.tup b) = some (.tup (a ++ b)) := by
  show (if a.length + b.length ≤ 1000 then some (D.tup (a ++ b)) else none) = _
  rw [if_pos h]
theorem oAdd_ll {M : MM} {a b : List D} (h : a.length + b.length ≤ 1000) : oAdd M (.lst a) (.lst b) = some (.lst (a ++ b)) := by
  show (if a.length + b.length ≤ 1000 then some (D.lst (a ++ b)) else none) = _
  rw [if_pos h]
theorem mOp_eq {o : MM → D → D → Option D} {f g : FE} {r : En} {M M1 M2 : MM} {x y z : D} (h1 : f r M = some (x, M1)) (h2 : g r M1 = some (y, M2)) (h3 : o M2 x y = some z) : mOp o f g r M = some (z, M2) := by
  unfold mOp
  rw [h1]
  simp only []
  rw [h2]
  simp only []
  rw [h3]
theorem g_Lbent (l : Nat) (n : Int) (ts : List (Int × Int)) (hl : ts.length ≤ 28) {M : MM} (c : Cup [] M) :
    ∃ (v : D) (M' : MM), G (l + 3) .Lbent [.mu 0, cD n ts] M = some (v, M') ∧ Bt v ∧ Cup [] M' := by
  have hg : ∀ x ∈ ts.map pD, good 2 x = true := fun x hx => by
    obtain ⟨p, _, rfl⟩ := List.mem_map.mp hx
    exact good_pD 1 p
  have hl' : (ts.map pD).length ≤ 28 := by simpa using hl
  obtain ⟨odd, M1, e1, m1, c1⟩ := cup_some l c (LO n) (by simp [LO]) (by simp [LO])
  have go := good_LO m1
  obtain ⟨tie, M2, e2, m2, c2⟩ := cup_some l c1 (LT n odd) (by simp [LT]) (by simp [LT])
  have gt := good_LT go m2
  obtain ⟨a, M3, e3, ha, c3⟩ := cup_roll (l + 1) c2 (ts.length + 1) (by omega) (by omega)
  obtain ⟨v, M4, e4, m4, c4⟩ := cup_some l c3 (LS n (ts.map pD) odd tie a ++ NL.cutD (LS n (ts.map pD) odd tie a) none (some 2) ++ LR n (ts.map pD)) (by simp [LS]) (by
    have := len_cut (xs := LS n (ts.map pD) odd tie a) (lo := none) (hi := some 2)
    simp only [List.length_append]
    simp only [LS, LR, List.length_cons, List.length_nil] at this ⊢
    omega)
  refine ⟨v, M4, ?_, ?_, c4⟩
  · show mFun 8 (B_Lbent (G (l + 2))) [.mu 0, cD n ts] M = _
    have ol : oLen M2 [.tup (ts.map pD)] = some (.int (ts.length : Nat)) := by
      show some (D.int ((ts.map pD).length : Int)) = _
      rw [List.length_map]
    have e3' : G (l + 2) .Lroll [.mu 0, .int ((ts.length : Nat) + 1)] M2 = some (.int a, M3) := by
      have q : (((ts.length : Nat) : Int) + 1) = ((ts.length + 1 : Nat) : Int) := by omega
      rw [q]
      exact e3
    simp only [cD] at *
    generalize ts.map pD = t at *
    have s1 : mAsg (mVar 1) (tgTup 2 (tgCons (tgName 2) (tgCons (tgName 3) tgNil))) [some (.mu 0), some (.tup [.int n, .tup t]), none, none, none, none, none, none] M = some (.nx [some (.mu 0), some (.tup [.int n, .tup t]), some (.int n), some (.tup t), none, none, none, none], M) := rfl
    have s2 : mAsg (mCall (G (l + 2) .Lsome) (mCons (mVar 0) (mCons (mLst (mCons (mUn oNeg (mC (.int 1))) (mCons (mC (.int 0)) (mCons (mC (.int 1)) (mCons (mC (.int 2)) (mCons (mVar 2) (mCons (mOp oSub (mVar 2) (mC (.int 1))) (mCons (mC .non) (mCons (mC (.bl true)) (mCons (mC (.str "0")) (mCons (mC (.int 10)) mNil))))))))))) mNil))) (tgName 4)
        [some (.mu 0), some (.tup [.int n, .tup t]), some (.int n), some (.tup t), none, none, none, none] M = some (.nx [some (.mu 0), some (.tup [.int n, .tup t]), some (.int n), some (.tup t), some odd, none, none, none], M1) := by
      have f : mCons (mVar 0) (mCons (mLst (mCons (mUn oNeg (mC (.int 1))) (mCons (mC (.int 0)) (mCons (mC (.int 1)) (mCons (mC (.int 2)) (mCons (mVar 2) (mCons (mOp oSub (mVar 2) (mC (.int 1))) (mCons (mC .non) (mCons (mC (.bl true)) (mCons (mC (.str "0")) (mCons (mC (.int 10)) mNil))))))))))) mNil)
        [some (.mu 0), some (.tup [.int n, .tup t]), some (.int n), some (.tup t), none, none, none, none] M = some ([.mu 0, .lst (LO n)], M) := rfl
      unfold mAsg mCall
      rw [f]
      simp only []
      rw [e1]
      rfl
    have s3 : mAsg (mCall (G (l + 2) .Lsome) (mCons (mVar 0) (mCons (mLst (mCons (mTup (mCons (mC (.int 0)) (mCons (mVar 4) mNil))) (mCons (mTup (mCons (mVar 4) (mCons (mC (.int 1)) mNil))) (mCons (mTup (mCons (mC (.int 1)) (mCons (mC (.int 0)) mNil))) (mCons (mTup (mCons (mC (.int 0)) (mCons (mC (.int 0)) mNil))) (mCons (mTup (mCons (mC (.int 0)) (mCons (mC (.int 1)) (mCons (mC (.int 2)) mNil)))) (mCons (mLst (mCons (mC (.int 0)) (mCons (mC (.int 1)) mNil))) (mCons (mVar 4) (mCons (mTup (mCons (mC (.int 0)) (mCons (mOp oSub (mVar 2) (mC (.int 1))) mNil))) mNil))))))))) mNil))) (tgName 5)
        [some (.mu 0), some (.tup [.int n, .tup t]), some (.int n), some (.tup t), some odd, none, none, none] M1 = some (.nx [some (.mu 0), some (.tup [.int n, .tup t]), some (.int n), some (.tup t), some odd, some tie, none, none], M2) := by
      have f : mCons (mVar 0) (mCons (mLst (mCons (mTup (mCons (mC (.int 0)) (mCons (mVar 4) mNil))) (mCons (mTup (mCons (mVar 4) (mCons (mC (.int 1)) mNil))) (mCons (mTup (mCons (mC (.int 1)) (mCons (mC (.int 0)) mNil))) (mCons (mTup (mCons (mC (.int 0)) (mCons (mC (.int 0)) mNil))) (mCons (mTup (mCons (mC (.int 0)) (mCons (mC (.int 1)) (mCons (mC (.int 2)) mNil)))) (mCons (mLst (mCons (mC (.int 0)) (mCons (mC (.int 1)) mNil))) (mCons (mVar 4) (mCons (mTup (mCons (mC (.int 0)) (mCons (mOp oSub (mVar 2) (mC (.int 1))) mNil))) mNil))))))))) mNil)
        [some (.mu 0), some (.tup [.int n, .tup t]), some (.int n), some (.tup t), some odd, none, none, none] M1 = some ([.mu 0, .lst (LT n odd)], M1) := rfl
      unfold mAsg mCall
      rw [f]
      simp only []
      rw [e2]
      rfl
    have s4 : mAsg (mCall (G (l + 2) .Lroll) (mCons (mVar 0) (mCons (mOp oAdd (mFn oLen (mCons (mVar 3) mNil)) (mC (.int 1))) mNil))) (tgName 6)
        [some (.mu 0), some (.tup [.int n, .tup t]), some (.int n), some (.tup t), some odd, some tie, none, none] M2 = some (.nx [some (.mu 0), some (.tup [.int n, .tup t]), some (.int n), some (.tup t), some odd, some tie, some (.int a), none], M3) := by
      have oa : oAdd M2 (.int (ts.length : Nat)) (.int 1) = some (.int ((ts.length : Nat) + 1)) := rfl
      simp only [mAsg, mCall, mCons, mNil, mOp, mFn, mVar, mC, List.getElem?_cons_zero, List.getElem?_cons_succ, Option.bind_some, ol, oa, e3', tgName, List.set_cons_succ, List.set_cons_zero]
    have l1 := len_cut (xs := t) (lo := none) (hi := some (a : Int))
    have l2 := len_cut (xs := t) (lo := some (a : Int)) (hi := none)
    have l3 := len_cut (xs := t) (lo := some ((a : Int) + 1)) (hi := none)
    have l4 := len_cut (xs := t) (lo := some (-1)) (hi := none)
    have s5 : mAsg (mLst (mCons (mTup (mCons (mVar 2) (mCons (mOp oAdd (mOp oAdd (mSl (mVar 3) mNo (mPart (mVar 6))) (mTup (mCons (mVar 5) mNil))) (mSl (mVar 3) (mPart (mVar 6)) mNo)) mNil))) (mCons (mTup (mCons (mVar 2) (mCons (mOp oAdd (mOp oAdd (mSl (mVar 3) mNo (mPart (mVar 6))) (mTup (mCons (mVar 5) mNil))) (mSl (mVar 3) (mPart (mOp oAdd (mVar 6) (mC (.int 1)))) mNo)) mNil))) (mCons (mTup (mCons (mVar 4) (mCons (mVar 3) mNil))) (mCons (mTup (mCons (mVar 2) (mCons (mRev (mVar 3)) mNil))) (mCons (mTup (mCons (mOp oSub (mVar 2) (mC (.int 1))) (mCons (mVar 3) mNil))) mNil)))))) (tgName 7)
        [some (.mu 0), some (.tup [.int n, .tup t]), some (.int n), some (.tup t), some odd, some tie, some (.int a), none] M3 = some (.nx [some (.mu 0), some (.tup [.int n, .tup t]), some (.int n), some (.tup t), some odd, some tie, some (.int a), some (.lst (LS n t odd tie a))], M3) := by
      have a1 : oAdd M3 (.tup (NL.cutD t none (some (a : Int)))) (.tup [tie]) = some (.tup (NL.cutD t none (some (a : Int)) ++ [tie])) := oAdd_tt (by simp; omega)
      have a2 : oAdd M3 (.tup (NL.cutD t none (some (a : Int)) ++ [tie])) (.tup (NL.cutD t (some (a : Int)) none)) = some (.tup (NL.cutD t none (some (a : Int)) ++ [tie] ++ NL.cutD t (some (a : Int)) none)) := oAdd_tt (by simp; omega)
      have a3 : oAdd M3 (.tup (NL.cutD t none (some (a : Int)) ++ [tie])) (.tup (NL.cutD t (some ((a : Int) + 1)) none)) = some (.tup (NL.cutD t none (some (a : Int)) ++ [tie] ++ NL.cutD t (some ((a : Int) + 1)) none)) := oAdd_tt (by simp; omega)
      have a4 : oAdd M3 (.int a) (.int 1) = some (.int ((a : Int) + 1)) := rfl
      have a5 : oSub M3 (.int n) (.int 1) = some (.int (n - 1)) := rfl
      simp only [mAsg, mLst, mTup, mCons, mNil, mOp, mSl, mNo, mPart, mRev, oSl, mVar, mC, List.getElem?_cons_zero, List.getElem?_cons_succ, Option.bind_some, a1, a2, a3, a4, a5, tgName, List.set_cons_succ, List.set_cons_zero, LS]
    have s6 : mRet (mCall (G (l + 2) .Lsome) (mCons (mVar 0) (mCons (mOp oAdd (mOp oAdd (mVar 7) (mSl (mVar 7) mNo (mPart (mC (.int 2))))) (mLst (mCons (mTup (mCons (mOp oAdd (mVar 2) (mC (.int 1))) (mCons (mVar 3) mNil))) (mCons (mTup (mCons (mVar 2) (mCons (mFn oList (mCons (mVar 3) mNil)) mNil))) (mCons (mLst (mCons (mVar 2) (mCons (mVar 3) mNil))) (mCons (mTup (mCons (mVar 2) mNil)) (mCons (mC .non) (mCons (mTup (mCons (mVar 3) (mCons (mVar 2) mNil))) (mCons (mTup (mCons (mVar 2) (mCons (mOp oAdd (mVar 3) (mSl (mVar 3) (mPart (mUn oNeg (mC (.int 1)))) mNo)) mNil))) mNil))))))))) mNil)))
        [some (.mu 0), some (.tup [.int n, .tup t]), some (.int n), some (.tup t), some odd, some tie, some (.int a), some (.lst (LS n t odd tie a))] M3 = some (.rt v, M4) := by
      have l5 := len_cut (xs := LS n t odd tie a) (lo := none) (hi := some 2)
      have l6 : (LS n t odd tie a).length = 5 := rfl
      have a1 : oAdd M3 (.lst (LS n t odd tie a)) (.lst (NL.cutD (LS n t odd tie a) none (some 2))) = some (.lst (LS n t odd tie a ++ NL.cutD (LS n t odd tie a) none (some 2))) := oAdd_ll (by omega)
      have a2 : oAdd M3 (.lst (LS n t odd tie a ++ NL.cutD (LS n t odd tie a) none (some 2))) (.lst (LR n t)) = some (.lst (LS n t odd tie a ++ NL.cutD (LS n t odd tie a) none (some 2) ++ LR n t)) := oAdd_ll (by simp [LR]; omega)
      have a3 : oAdd M3 (.tup t) (.tup (NL.cutD t (some (-1)) none)) = some (.tup (t ++ NL.cutD t (some (-1)) none)) := oAdd_tt (by omega)
      have a4 : oAdd M3 (.int n) (.int 1) = some (.int (n + 1)) := rfl
      have a5 : oList M3 [.tup t] = some (.lst t) := rfl
      have a6 : oNeg (.int 1) = some (.int (-1)) := rfl
      have f : mLst (mCons (mTup (mCons (mOp oAdd (mVar 2) (mC (.int 1))) (mCons (mVar 3) mNil))) (mCons (mTup (mCons (mVar 2) (mCons (mFn oList (mCons (mVar 3) mNil)) mNil))) (mCons (mLst (mCons (mVar 2) (mCons (mVar 3) mNil))) (mCons (mTup (mCons (mVar 2) mNil)) (mCons (mC .non) (mCons (mTup (mCons (mVar 3) (mCons (mVar 2) mNil))) (mCons (mTup (mCons (mVar 2) (mCons (mOp oAdd (mVar 3) (mSl (mVar 3) (mPart (mUn oNeg (mC (.int 1)))) mNo)) mNil))) mNil)))))))
        [some (.mu 0), some (.tup [.int n, .tup t]), some (.int n), some (.tup t), some odd, some tie, some (.int a), some (.lst (LS n t odd tie a))] M3 = some (.lst (LR n t), M3) := by
        simp only [mLst, mTup, mCons, mNil, mOp, mUn, mSl, mNo, mPart, oSl, mFn, mVar, mC, List.getElem?_cons_zero, List.getElem?_cons_succ, Option.bind_some, a3, a4, a5, a6, LR]
      have f2 : mOp oAdd (mVar 7) (mSl (mVar 7) mNo (mPart (mC (.int 2)))) [some (.mu 0), some (.tup [.int n, .tup t]), some (.int n), some (.tup t), some odd, some tie, some (.int a), some (.lst (LS n t odd tie a))] M3 = some (.lst (LS n t odd tie a ++ NL.cutD (LS n t odd tie a) none (some 2)), M3) := by
        simp only [mOp, mSl, mNo, mPart, oSl, mVar, mC, List.getElem?_cons_zero, List.getElem?_cons_succ, Option.bind_some, a1]
      have f3 : mVar 0 [some (.mu 0), some (.tup [.int n, .tup t]), some (.int n), some (.tup t), some odd, some tie, some (.int a), some (.lst (LS n t odd tie a))] M3 = some (.mu 0, M3) := rfl
      have f4 := mOp_eq f2 f a2
      unfold mRet mCall
      simp only [mCons, mNil, f3, f4, e4]
    simp only [mFun, B_Lbent, mSeq, startD, List.map_cons, List.map_nil, List.length_cons, List.length_nil, Nat.zero_add, Nat.reduceSub, Nat.reduceAdd, List.replicate_succ, List.replicate_zero, List.cons_append, List.nil_append]
    rw [s1]
    simp only []
    rw [s2]
    simp only []
    rw [s3]
    simp only []
    rw [s4]
    simp only []
    rw [s5]
    simp only []
    rw [s6]
  · rcases List.mem_append.mp m4 with m4 | m4
    · rcases List.mem_append.mp m4 with m4 | m4
      · exact bt_LS go gt hg hl' m4
      · exact bt_LS go gt hg hl' (mem_cut m4)
    · exact bt_LR hg hl' m4
end MT

namespace MT
open PySem PySem.Spec PyProof.Rows L2 NL
/-! ### a thing is equal to itself -/
theorem eqvAll_self : ∀ {xs : List D}, (∀ x ∈ xs, oEqv x x = true) → PyData.eqvAll (pys xs) (pys xs) = true
  | [], _ => rfl
  | x :: xs, h => by
    show (PyData.eqv (py x) (py x) && PyData.eqvAll (pys xs) (pys xs)) = true
    rw [eqvAll_self fun y hy => h y (List.mem_cons_of_mem _ hy)]
    have := h x List.mem_cons_self
    unfold oEqv at this
    rw [this]
    rfl
theorem eqv_self : ∀ {n : Nat} {d : D}, good n d = true → oEqv d d = true
  | _, .non, _ => rfl
  | _, .bl b, _ => by cases b <;> rfl
  | _, .int i, _ => by
    show (i == i) = true
    simp
  | _, .str x, _ => by
    show (x == x) = true
    simp
  | 0, .tup xs, h => by cases h
  | n + 1, .tup xs, h => by
    simp only [good, Bool.and_eq_true, List.all_eq_true] at h
    exact eqvAll_self fun x hx => eqv_self (h.2 x hx)
  | 0, .lst xs, h => by cases h
  | n + 1, .lst xs, h => by
    simp only [good, Bool.and_eq_true, List.all_eq_true] at h
    exact eqvAll_self fun x hx => eqv_self (h.2 x hx)
  | n, .mu _, h => by cases n <;> cases h
  | n, .fz _, h => by cases n <;> cases h
  | n, .ct _, h => by cases n <;> cases h
  | n, .dk _ _, h => by cases n <;> cases h
  | n, .dt _ _, h => by cases n <;> cases h
  | n, .ins _ _ _, h => by cases n <;> cases h
theorem oEq_self {n : Nat} {d : D} {M : MM} (h : good n d = true) (hn : n ≤ 64) : oEq M d d = some (.bl true) := by
  have o := okD_of h hn
  have e := eqv_self h
  cases d with
  | int i =>
    show some (D.bl (i == i)) = _
    simp
  | str x =>
    show some (D.bl (x == x)) = _
    simp
  | bl b =>
    show some (D.bl (b == b)) = _
    simp
  | _ => simp only [oEq, o, e, Bool.and_self, if_true]
theorem oNe_self {n : Nat} {d : D} {M : MM} (h : good n d = true) (hn : n ≤ 64) : oNe M d d = some (.bl false) := by
  unfold oNe
  rw [oEq_self h hn]
  rfl
theorem mB_eq {f : FE} {r : En} {M M1 : MM} {b : Bool} (h : f r M = some (.bl b, M1)) : mB f r M = some (b, M1) := by
  unfold mB
  rw [h]
theorem mIfS_false {c : FB} {f g : FS} {r : En} {M M1 : MM} (h : c r M = some (false, M1)) : mIfS c f g r M = g r M1 := by
  unfold mIfS
  rw [h]
theorem mIfS_true {c : FB} {f g : FS} {r : En} {M M1 : MM} (h : c r M = some (true, M1)) : mIfS c f g r M = f r M1 := by
  unfold mIfS
  rw [h]
theorem mOr_two {f g : FE} {r : En} {M M1 : MM} {x : Option (D × MM)} (h : f r M = some (.bl false, M1)) (h2 : g r M1 = x) : mOr f g r M = x := by
  unfold mOr
  rw [h]
  exact h2
theorem mSeq_nx {f g : FS} {r r1 : En} {M M1 : MM} (h : f r M = some (.nx r1, M1)) : mSeq f g r M = g r1 M1 := by
  unfold mSeq
  rw [h]
/-! ### the judge upon one company -/
def nD (js : List Nat) : List D := js.map fun (j : Nat) => D.int j
theorem range_nD (n : Nat) : rangeD 0 n = nD (List.range n) := by
  rw [rangeD_ints, List.map_map]
  rfl
theorem lc_nat {tg : FT} {t : FB} {e : FE} {r : En} {M : MM} (q : Nat → Bool) (f : Nat → D) : ∀ {js : List Nat}, (∀ j ∈ js, ∃ r1, tg (.int (j : Nat)) r = some r1 ∧ t r1 M = some (q j, M) ∧ (q j = true → e r1 M = some (f j, M))) → lcD tg t e r (nD js) M = some ((js.filter q).map f, M)
  | [], _ => rfl
  | j :: js, h => by
    obtain ⟨r1, h1, h2, h3⟩ := h j List.mem_cons_self
    have ih := lc_nat q f (js := js) fun d hd => h d (List.mem_cons_of_mem _ hd)
    show lcD tg t e r (.int (j : Nat) :: nD js) M = _
    unfold lcD
    rw [h1]
    simp only []
    rw [h2]
    cases hp : q j with
    | true =>
      simp only []
      rw [h3 hp]
      simp only []
      rw [ih]
      simp [List.filter_cons, hp]
    | false =>
      simp only []
      rw [ih]
      simp [List.filter_cons, hp]
theorem good_nD {js : List Nat} (h : js.length ≤ 1000) : good 1 (.tup (nD js)) = true := by
  refine good_tupL (fun x hx => ?_) (by simpa [nD] using h)
  obtain ⟨j, _, rfl⟩ := List.mem_map.mp hx
  rfl
def on (n i : Nat) : List Nat := (List.range n).filter fun j => !(j == i)
structure RF (cl : Fid → FC) (k n : Nat) (ts : List (Int × Int)) : Prop where
  isco : ∀ (d : D) (M : MM), good 6 d = true → cl .p_is_company [.int k, d] M = some (.bl (coB k d), M)
  known : ∀ (i : Nat) (M : MM), i < n → cl .p_known_to [.int k, cD n ts, .int i] M = some (.tup (nD ((List.range n).filter fun (j : Nat) => inT ts i j)), M)
  know : ∀ (i j : Nat) (M : MM), i < n → j < n → i ≠ j → cl .p_do_know [.int k, cD n ts, .int i, .int j] M = some (.bl (inT ts i j), M)
  knows : ∀ (i j : Nat) (M : MM), cl .Lknows [cD n ts, .int i, .int j] M = some (.bl (inT ts i j), M)
  besides : ∀ {M : MM}, Cup [] M → ∃ (fs : List Int) (M' : MM), cl .Lsome_besides [.mu 0, .int k, cD n ts] M = some (.tup (fs.map D.int), M') ∧ Cup [] M' ∧ fs.Nodup ∧ (∀ x ∈ fs, (k : Int) ≤ x ∧ x < n) ∧ k + fs.length ≤ n
  part_of : ∀ (bs : List Int) (M : MM), k + bs.length ≤ 9 → bs.Nodup → (∀ b ∈ bs, (k : Int) ≤ b ∧ b < n) → cl .p_part_of [.int k, cD n ts, .tup (bs.map D.int)] M = some (ptD k bs ts, M)
  part : ∀ (bs : List Int) (M : MM), k + bs.length ≤ 9 → cl .Lpart [.int k, cD n ts, .tup (bs.map D.int)] M = some (ptD k bs ts, M)
  bent : ∀ {M : MM}, Cup [] M → ∃ (v : D) (M' : MM), cl .Lbent [.mu 0, cD n ts] M = some (v, M') ∧ Bt v ∧ Cup [] M'
  judged : ∀ (d : D) (M : MM), Bt d → cl .Ljudged [.int k, d] M = some (.bl (coB k d), M)
theorem rf {k n : Nat} {ts : List (Int × Int)} (c : Co k n ts) (h28 : ts.length ≤ 28) (l : Nat) : RF (G (l + 7)) k n ts where
  isco := fun d M hg => g_is_company c.nm (l + 1) d M hg
  known := fun i M hi => g_known_to c l i M (by omega) (by omega)
  know := fun i j M hi hj h => g_do_know c l i j M (by omega) (by omega) (by omega) (by omega) (by omega)
  knows := fun i j M => g_knows (l + 5) n i j ts M (by omega)
  besides := fun h => g_some_besides c (l + 5) h
  part_of := fun bs M h1 h2 h3 => g_part_of c l bs M h1 h2 h3
  part := fun bs M h1 => g_Lpart c (l + 4) bs M h1
  bent := fun h => g_Lbent (l + 4) n ts h28 h
  judged := fun d M h => g_judged (l + 5) k d M h.1 (by decide) h.2
def rE (k : Nat) (co : D) (e3 e4 e5 e6 e7 e8 : Option D) : En := [some (.mu 0), some (.int k), some co, e3, e4, e5, e6, e7, e8, none, none]
def rA : FS := mSet 4 (mLcR rng1 (mCons (mOp oIx (mVar 2) (mC (.int 0))) mNil) (tgName 9) (mB (mOp oNe (mVar 9) (mVar 3))) (mVar 9) [9])
def rB (cl : Fid → FC) : FS := mIfS (mB (mOp oNe (mCall (cl .p_known_to) (mCons (mVar 1) (mCons (mVar 2) (mCons (mVar 3) mNil)))) (mFn oTuple (mCons (mLc itemsL (mVar 4) (tgName 9) (mB (mCall (cl .Lknows) (mCons (mVar 2) (mCons (mVar 3) (mCons (mVar 9) mNil))))) (mVar 9) [9]) mNil)))) (mRet (mC (.bl false))) mSkip
def rC (cl : Fid → FC) : FS := mSet 5 (mLc itemsL (mVar 4) (tgName 9) mYes (mCall (cl .p_do_know) (mCons (mVar 1) (mCons (mVar 2) (mCons (mVar 3) (mCons (mVar 9) mNil))))) [9])
def rD (cl : Fid → FC) : FS := mIfS (mB (mOr (mOp oNe (mVar 5) (mLc itemsL (mVar 4) (tgName 9) mYes (mCall (cl .Lknows) (mCons (mVar 2) (mCons (mVar 3) (mCons (mVar 9) mNil)))) [9])) (mOp oNe (mLc itemsL (mVar 5) (tgName 10) (mB (mNot (mIs "bool" (mVar 10)))) (mC (.int 1)) [10]) (mLst mNil)))) (mRet (mC (.bl false))) mSkip
def rP (cl : Fid → FC) : FS := mIfS (mB (mOp oNe (mCall (cl .p_part_of) (mCons (mVar 1) (mCons (mVar 2) (mCons (mVar 6) mNil)))) (mCall (cl .Lpart) (mCons (mVar 1) (mCons (mVar 2) (mCons (mVar 6) mNil)))))) (mRet (mC (.bl false))) mSkip
def rQ (cl : Fid → FC) : FS := mSeq (mAsg (mCall (cl .Lbent) (mCons (mVar 0) (mCons (mVar 2) mNil))) (tgName 8)) (mSeq (mAsg (mCall (cl .p_is_company) (mCons (mVar 1) (mCons (mVar 8) mNil))) (tgName 5)) (mIfS (mB (mOr (mNot (mIs "bool" (mVar 5))) (mOp oNe (mVar 5) (mCall (cl .Ljudged) (mCons (mVar 1) (mCons (mVar 8) mNil)))))) (mRet (mC (.bl false))) mSkip))
theorem right_eq (cl : Fid → FC) : B_Lright cl = mSeq (mIfS (mB (mOp oIsNot (mCall (cl .p_is_company) (mCons (mVar 1) (mCons (mVar 2) mNil))) (mC (.bl true)))) (mRet (mC (.bl false))) mSkip)
    (mSeq (mForR rng1 (mCons (mOp oIx (mVar 2) (mC (.int 0))) mNil) (tgName 3) (mSeq rA (mSeq (rB cl) (mSeq (rC cl) (rD cl)))))
    (mSeq (mAsg (mCall (cl .Lsome_besides) (mCons (mVar 0) (mCons (mVar 1) (mCons (mVar 2) mNil)))) (tgName 6))
    (mSeq (rP cl) (mSeq (mForR rng1 (mCons (mC (.int 4)) mNil) (tgName 7) (rQ cl)) (mRet (mC (.bl true))))))) := rfl
section
variable {cl : Fid → FC} {k n : Nat} {ts : List (Int × Int)}
theorem rng1_n (j : Nat) (h : j ≤ 1000) : rng1 [.int (j : Int)] = some (0, (j : Int)) := by
  show (if (j : Int).natAbs ≤ 1000000 then some ((0 : Int), (j : Int)) else none) = _
  rw [if_pos (by omega)]
theorem beq_nat (i j : Nat) : ((i : Int) == (j : Int)) = (i == j) := by
  rw [Bool.eq_iff_iff, beq_iff_eq, beq_iff_eq]
  omega
theorem r_A (i : Nat) (n9 : n ≤ 9) (e4 e5 e6 e7 e8 : Option D) (M : MM) : rA (rE k (cD n ts) (some (.int i)) e4 e5 e6 e7 e8) M = some (.nx (rE k (cD n ts) (some (.int i)) (some (.lst (nD (on n i)))) e5 e6 e7 e8), M) := by
  have lc : lcD (tgName 9) (mB (mOp oNe (mVar 9) (mVar 3))) (mVar 9) (wipeD (rE k (cD n ts) (some (.int i)) e4 e5 e6 e7 e8) [9]) (rangeD 0 n) M = some (nD (on n i), M) := by
    rw [range_nD]
    refine lc_nat (fun j => !(j == i)) (fun j => .int j) fun j hj => ⟨_, rfl, ?_, fun _ => rfl⟩
    simp only [rE, wipeD, List.set_cons_succ, List.set_cons_zero, mB, mOp, mVar, List.getElem?_cons_zero, List.getElem?_cons_succ, Option.bind_some, oNe_ii, beq_nat]
  have ix : oIx M (cD n ts) (.int 0) = some (.int n) := cD_0 n ts
  have e0 : ((n : Int) - 0).toNat = n := by omega
  have f : mCons (mOp oIx (mVar 2) (mC (.int 0))) mNil (rE k (cD n ts) (some (.int i)) e4 e5 e6 e7 e8) M = some ([.int n], M) := by
    simp only [rE, mCons, mNil, mOp, mVar, mC, List.getElem?_cons_zero, List.getElem?_cons_succ, Option.bind_some, ix]
  unfold rA mSet mLcR
  rw [f]
  simp only [rng1_n n (by omega), e0]
  rw [if_pos (by omega), lc]
  rfl
theorem on_len (i : Nat) (n9 : n ≤ 9) : (on n i).length ≤ 9 := by
  have := List.length_filter_le (fun j => !(j == i)) (List.range n)
  rw [List.length_range] at this
  exact Nat.le_trans this n9
theorem mem_on {i j : Nat} (h : j ∈ on n i) : j < n ∧ i ≠ j := by
  obtain ⟨h1, h2⟩ := List.mem_filter.mp h
  refine ⟨List.mem_range.mp h1, fun e => ?_⟩
  subst e
  simp at h2
theorem inT_self (c : Co k n ts) (i : Nat) : inT ts i i = false := by
  unfold inT
  refine decide_eq_false fun h => ?_
  have := (c.ok _ h).2.1
  simp only [prD, lo2, hi2] at this
  simp at this
theorem on_filter (c : Co k n ts) (i : Nat) : (on n i).filter (fun (j : Nat) => inT ts i j) = (List.range n).filter fun (j : Nat) => inT ts i j := by
  unfold on
  rw [List.filter_filter]
  refine List.filter_congr fun j _ => ?_
  by_cases h : j = i
  · subst h
    rw [inT_self c]
    rfl
  · have : (j == i) = false := by simpa using h
    rw [this]
    simp
theorem r_B (F : RF cl k n ts) (c : Co k n ts) (i : Nat) (hi : i < n) (e5 e6 e7 e8 : Option D) (M : MM) : rB cl (rE k (cD n ts) (some (.int i)) (some (.lst (nD (on n i)))) e5 e6 e7 e8) M = some (.nx (rE k (cD n ts) (some (.int i)) (some (.lst (nD (on n i)))) e5 e6 e7 e8), M) := by
  have n9 := c.n9
  have ol := on_len (n := n) i n9
  have lc : lcD (tgName 9) (mB (mCall (cl .Lknows) (mCons (mVar 2) (mCons (mVar 3) (mCons (mVar 9) mNil))))) (mVar 9) (wipeD (rE k (cD n ts) (some (.int i)) (some (.lst (nD (on n i)))) e5 e6 e7 e8) [9]) (nD (on n i)) M = some (nD ((List.range n).filter fun (j : Nat) => inT ts i j), M) := by
    have := lc_nat (tg := tgName 9) (t := mB (mCall (cl .Lknows) (mCons (mVar 2) (mCons (mVar 3) (mCons (mVar 9) mNil))))) (e := mVar 9) (r := wipeD (rE k (cD n ts) (some (.int i)) (some (.lst (nD (on n i)))) e5 e6 e7 e8) [9]) (M := M) (fun (j : Nat) => inT ts i j) (fun j => .int j) (js := on n i) fun j hj => ⟨_, rfl, by
      have g := F.knows i j M
      generalize cD (n : Int) ts = co at *
      simp only [rE, wipeD, List.set_cons_succ, List.set_cons_zero, mB, mCall, mCons, mNil, mVar, List.getElem?_cons_zero, List.getElem?_cons_succ, Option.bind_some, g], fun _ => rfl⟩
    rw [on_filter c] at this
    exact this
  have hg : good 1 (.tup (nD ((List.range n).filter fun (j : Nat) => inT ts i j))) = true := good_nD (by
    have := List.length_filter_le (fun (j : Nat) => inT ts i j) (List.range n)
    rw [List.length_range] at this
    omega)
  have q := oNe_self (M := M) hg (by decide)
  have g := F.known i M hi
  have hl : (nD (on n i)).length ≤ 1000 := by
    unfold nD
    rw [List.length_map]
    omega
  generalize nD ((List.range n).filter fun (j : Nat) => inT ts i j) = w at *
  generalize nD (on n i) = z at *
  generalize cD (n : Int) ts = co at *
  have o1 : oTuple M [.lst w] = some (.tup w) := rfl
  have f : mLc itemsL (mVar 4) (tgName 9) (mB (mCall (cl .Lknows) (mCons (mVar 2) (mCons (mVar 3) (mCons (mVar 9) mNil))))) (mVar 9) [9] (rE k co (some (.int i)) (some (.lst z)) e5 e6 e7 e8) M = some (.lst w, M) := by
    have v : mVar 4 (rE k co (some (.int i)) (some (.lst z)) e5 e6 e7 e8) M = some (.lst z, M) := rfl
    unfold mLc
    rw [v]
    simp only [itemsL]
    rw [if_pos hl, lc]
  have f1 : mCall (cl .p_known_to) (mCons (mVar 1) (mCons (mVar 2) (mCons (mVar 3) mNil))) (rE k co (some (.int i)) (some (.lst z)) e5 e6 e7 e8) M = some (.tup w, M) := by
    simp only [rE, mCall, mCons, mNil, mVar, List.getElem?_cons_zero, List.getElem?_cons_succ, Option.bind_some, g]
  have f2 : mFn oTuple (mCons (mLc itemsL (mVar 4) (tgName 9) (mB (mCall (cl .Lknows) (mCons (mVar 2) (mCons (mVar 3) (mCons (mVar 9) mNil))))) (mVar 9) [9]) mNil) (rE k co (some (.int i)) (some (.lst z)) e5 e6 e7 e8) M = some (.tup w, M) := by
    simp only [mFn, mCons, mNil, f, o1]
  have f3 := mOp_eq f1 f2 q
  unfold rB
  rw [mIfS_false (mB_eq f3)]
  rfl
theorem r_C (F : RF cl k n ts) (c : Co k n ts) (i : Nat) (hi : i < n) (e5 e6 e7 e8 : Option D) (M : MM) : rC cl (rE k (cD n ts) (some (.int i)) (some (.lst (nD (on n i)))) e5 e6 e7 e8) M =
    some (.nx (rE k (cD n ts) (some (.int i)) (some (.lst (nD (on n i)))) (some (.lst ((on n i).map fun (j : Nat) => .bl (inT ts i j)))) e6 e7 e8), M) := by
  have ol := on_len (n := n) i c.n9
  have lc : lcD (tgName 9) mYes (mCall (cl .p_do_know) (mCons (mVar 1) (mCons (mVar 2) (mCons (mVar 3) (mCons (mVar 9) mNil))))) (wipeD (rE k (cD n ts) (some (.int i)) (some (.lst (nD (on n i)))) e5 e6 e7 e8) [9]) (nD (on n i)) M = some ((on n i).map fun (j : Nat) => .bl (inT ts i j), M) := by
    have := lc_nat (tg := tgName 9) (t := mYes) (e := mCall (cl .p_do_know) (mCons (mVar 1) (mCons (mVar 2) (mCons (mVar 3) (mCons (mVar 9) mNil))))) (r := wipeD (rE k (cD n ts) (some (.int i)) (some (.lst (nD (on n i)))) e5 e6 e7 e8) [9]) (M := M) (fun _ => true) (fun (j : Nat) => .bl (inT ts i j)) (js := on n i) fun j hj => ⟨_, rfl, rfl, fun _ => by
      obtain ⟨h1, h2⟩ := mem_on hj
      have g := F.know i j M hi h1 h2
      generalize cD (n : Int) ts = co at *
      simp only [rE, wipeD, List.set_cons_succ, List.set_cons_zero, mCall, mCons, mNil, mVar, List.getElem?_cons_zero, List.getElem?_cons_succ, Option.bind_some, g]⟩
    rw [List.filter_eq_self.mpr fun _ _ => rfl] at this
    exact this
  have hl : (nD (on n i)).length ≤ 1000 := by
    unfold nD
    rw [List.length_map]
    omega
  have v : mVar 4 (rE k (cD n ts) (some (.int i)) (some (.lst (nD (on n i)))) e5 e6 e7 e8) M = some (.lst (nD (on n i)), M) := rfl
  unfold rC mSet mLc
  rw [v]
  simp only [itemsL]
  rw [if_pos hl, lc]
  rfl
theorem r_D (F : RF cl k n ts) (c : Co k n ts) (i : Nat) (hi : i < n) (e6 e7 e8 : Option D) (M : MM) : rD cl (rE k (cD n ts) (some (.int i)) (some (.lst (nD (on n i)))) (some (.lst ((on n i).map fun (j : Nat) => .bl (inT ts i j)))) e6 e7 e8) M =
    some (.nx (rE k (cD n ts) (some (.int i)) (some (.lst (nD (on n i)))) (some (.lst ((on n i).map fun (j : Nat) => .bl (inT ts i j)))) e6 e7 e8), M) := by
  have ol := on_len (n := n) i c.n9
  have lc : lcD (tgName 9) mYes (mCall (cl .Lknows) (mCons (mVar 2) (mCons (mVar 3) (mCons (mVar 9) mNil)))) (wipeD (rE k (cD n ts) (some (.int i)) (some (.lst (nD (on n i)))) (some (.lst ((on n i).map fun (j : Nat) => .bl (inT ts i j)))) e6 e7 e8) [9]) (nD (on n i)) M = some ((on n i).map fun (j : Nat) => .bl (inT ts i j), M) := by
    have := lc_nat (tg := tgName 9) (t := mYes) (e := mCall (cl .Lknows) (mCons (mVar 2) (mCons (mVar 3) (mCons (mVar 9) mNil)))) (r := wipeD (rE k (cD n ts) (some (.int i)) (some (.lst (nD (on n i)))) (some (.lst ((on n i).map fun (j : Nat) => .bl (inT ts i j)))) e6 e7 e8) [9]) (M := M) (fun _ => true) (fun (j : Nat) => .bl (inT ts i j)) (js := on n i) fun j hj => ⟨_, rfl, rfl, fun _ => by
      have g := F.knows i j M
      generalize cD (n : Int) ts = co at *
      simp only [rE, wipeD, List.set_cons_succ, List.set_cons_zero, mCall, mCons, mNil, mVar, List.getElem?_cons_zero, List.getElem?_cons_succ, Option.bind_some, g]⟩
    rw [List.filter_eq_self.mpr fun _ _ => rfl] at this
    exact this
  have hl : (nD (on n i)).length ≤ 1000 := by
    unfold nD
    rw [List.length_map]
    omega
  have hb : ∀ x ∈ (on n i).map fun (j : Nat) => D.bl (inT ts i j), ∃ b, x = .bl b := fun x hx => by
    obtain ⟨j, _, rfl⟩ := List.mem_map.mp hx
    exact ⟨_, rfl⟩
  have hw : ((on n i).map fun (j : Nat) => D.bl (inT ts i j)).length ≤ 1000 := by
    rw [List.length_map]
    omega
  generalize ((on n i).map fun (j : Nat) => D.bl (inT ts i j)) = w at *
  generalize nD (on n i) = z at *
  generalize cD (n : Int) ts = co at *
  have hg : good 1 (.lst w) = true := good_lstL (fun x hx => by
    obtain ⟨b, rfl⟩ := hb x hx
    rfl) hw
  have q := oNe_self (M := M) hg (by decide)
  have f : mLc itemsL (mVar 4) (tgName 9) mYes (mCall (cl .Lknows) (mCons (mVar 2) (mCons (mVar 3) (mCons (mVar 9) mNil)))) [9] (rE k co (some (.int i)) (some (.lst z)) (some (.lst w)) e6 e7 e8) M = some (.lst w, M) := by
    have v : mVar 4 (rE k co (some (.int i)) (some (.lst z)) (some (.lst w)) e6 e7 e8) M = some (.lst z, M) := rfl
    unfold mLc
    rw [v]
    simp only [itemsL]
    rw [if_pos hl, lc]
  have v5 : mVar 5 (rE k co (some (.int i)) (some (.lst z)) (some (.lst w)) e6 e7 e8) M = some (.lst w, M) := rfl
  have f1 := mOp_eq v5 f q
  have lc2 : lcD (tgName 10) (mB (mNot (mIs "bool" (mVar 10)))) (mC (.int 1)) (wipeD (rE k co (some (.int i)) (some (.lst z)) (some (.lst w)) e6 e7 e8) [10]) w M = some ((w.filter fun _ => false).map fun _ => .int 1, M) := by
    refine lcD_filter (fun _ => false) (fun _ => .int 1) fun x hx => ?_
    obtain ⟨b, rfl⟩ := hb x hx
    exact ⟨_, rfl, rfl, fun h => by cases h⟩
  have ef : ((w.filter fun _ => false).map fun _ => D.int 1) = [] := by
    rw [List.filter_eq_nil_iff.mpr (by simp)]
    rfl
  rw [ef] at lc2
  have f2 : mLc itemsL (mVar 5) (tgName 10) (mB (mNot (mIs "bool" (mVar 10)))) (mC (.int 1)) [10] (rE k co (some (.int i)) (some (.lst z)) (some (.lst w)) e6 e7 e8) M = some (.lst [], M) := by
    unfold mLc
    rw [v5]
    simp only [itemsL]
    rw [if_pos hw, lc2]
  have v0 : mLst mNil (rE k co (some (.int i)) (some (.lst z)) (some (.lst w)) e6 e7 e8) M = some (.lst [], M) := rfl
  have q0 : oNe M (.lst []) (.lst []) = some (.bl false) := oNe_self (n := 1) rfl (by decide)
  have f3 := mOp_eq f2 v0 q0
  unfold rD
  rw [mIfS_false (mB_eq (mOr_two f1 f3))]
  rfl
end
end MT

namespace MT
open PySem PySem.Spec PyProof.Rows L2 NL
section
variable {cl : Fid → FC} {k n : Nat} {ts : List (Int × Int)}
theorem r_one (F : RF cl k n ts) (c : Co k n ts) (i : Nat) (hi : i < n) (e4 e5 e6 e7 e8 : Option D) (M : MM) : mSeq rA (mSeq (rB cl) (mSeq (rC cl) (rD cl))) (rE k (cD n ts) (some (.int i)) e4 e5 e6 e7 e8) M =
    some (.nx (rE k (cD n ts) (some (.int i)) (some (.lst (nD (on n i)))) (some (.lst ((on n i).map fun (j : Nat) => .bl (inT ts i j)))) e6 e7 e8), M) := by
  rw [mSeq_nx (r_A i c.n9 e4 e5 e6 e7 e8 M), mSeq_nx (r_B F c i hi e5 e6 e7 e8 M), mSeq_nx (r_C F c i hi e5 e6 e7 e8 M)]
  exact r_D F c i hi e6 e7 e8 M
theorem forD_nx {tg : FT} {f : FS} {d : D} {ds : List D} {r r1 r2 : En} {M M1 : MM} (h1 : tg d r = some r1) (h2 : f r1 M = some (.nx r2, M1)) : forD tg f (d :: ds) r M = forD tg f ds r2 M1 := by
  rw [forD, h1]
  dsimp only
  rw [h2]
theorem r_loop (F : RF cl k n ts) (c : Co k n ts) (M : MM) : ∀ (js : List Nat), (∀ j ∈ js, j < n) → ∀ e3 e4 e5 e6 e7 e8 : Option D, ∃ f3 f4 f5 : Option D,
    forD (tgName 3) (mSeq rA (mSeq (rB cl) (mSeq (rC cl) (rD cl)))) (nD js) (rE k (cD n ts) e3 e4 e5 e6 e7 e8) M = some (.nx (rE k (cD n ts) f3 f4 f5 e6 e7 e8), M)
  | [], _, e3, e4, e5, e6, e7, e8 => ⟨e3, e4, e5, rfl⟩
  | j :: js, h, e3, e4, e5, e6, e7, e8 => by
    obtain ⟨f3, f4, f5, q⟩ := r_loop F c M js (fun i hi => h i (List.mem_cons_of_mem _ hi)) (some (.int j)) (some (.lst (nD (on n j)))) (some (.lst ((on n j).map fun (i : Nat) => .bl (inT ts j i)))) e6 e7 e8
    refine ⟨f3, f4, f5, ?_⟩
    rw [← q]
    exact forD_nx (d := .int j) rfl (r_one F c j (h j List.mem_cons_self) e4 e5 e6 e7 e8 M)
theorem r_P (F : RF cl k n ts) (c : Co k n ts) (fs : List Int) (nd : fs.Nodup) (hb : ∀ x ∈ fs, (k : Int) ≤ x ∧ x < n) (hl : k + fs.length ≤ n) (e3 e4 e5 e7 e8 : Option D) (M : MM) :
    rP cl (rE k (cD n ts) e3 e4 e5 (some (.tup (fs.map D.int))) e7 e8) M = some (.nx (rE k (cD n ts) e3 e4 e5 (some (.tup (fs.map D.int))) e7 e8), M) := by
  have n9 := c.n9
  have h1 := F.part_of fs M (by omega) nd hb
  have h2 := F.part fs M (by omega)
  have pl : (ptP k fs ts).length ≤ 1000 := by
    have l1 : (ptP k fs ts).length ≤ (allP (k + fs.length)).length := List.length_filter_le _ _
    have l2 := allP_len (k + fs.length) (by omega)
    omega
  have q : oNe M (ptD k fs ts) (ptD k fs ts) = some (.bl false) := oNe_self (n := 3) (good_cD pl) (by decide)
  generalize ptD k fs ts = w at *
  generalize cD (n : Int) ts = co at *
  generalize D.tup (fs.map D.int) = b at *
  have f1 : mCall (cl .p_part_of) (mCons (mVar 1) (mCons (mVar 2) (mCons (mVar 6) mNil))) (rE k co e3 e4 e5 (some b) e7 e8) M = some (w, M) := by
    simp only [rE, mCall, mCons, mNil, mVar, List.getElem?_cons_zero, List.getElem?_cons_succ, Option.bind_some, h1]
  have f2 : mCall (cl .Lpart) (mCons (mVar 1) (mCons (mVar 2) (mCons (mVar 6) mNil))) (rE k co e3 e4 e5 (some b) e7 e8) M = some (w, M) := by
    simp only [rE, mCall, mCons, mNil, mVar, List.getElem?_cons_zero, List.getElem?_cons_succ, Option.bind_some, h2]
  unfold rP
  rw [mIfS_false (mB_eq (mOp_eq f1 f2 q))]
  rfl
theorem r_Q (F : RF cl k n ts) (e3 e4 e5 e6 e7 e8 : Option D) {M : MM} (c : Cup [] M) :
    ∃ (f5 f8 : Option D) (M' : MM), rQ cl (rE k (cD n ts) e3 e4 e5 e6 e7 e8) M = some (.nx (rE k (cD n ts) e3 e4 f5 e6 e7 f8), M') ∧ Cup [] M' := by
  obtain ⟨v, M1, h1, hv, c1⟩ := F.bent c
  have h2 := F.isco v M1 (good_mono hv.1 (by decide))
  have h3 := F.judged v M1 hv
  refine ⟨some (.bl (coB k v)), some v, M1, ?_, c1⟩
  have q : oNe M1 (.bl (coB k v)) (.bl (coB k v)) = some (.bl false) := oNe_self (n := 0) rfl (by decide)
  have i1 : isT "bool" (.bl (coB k v)) = true := by simp [isT]
  have i2 : tyd (.bl (coB k v)) = true := rfl
  generalize coB k v = b at *
  generalize cD (n : Int) ts = co at *
  simp only [rQ, rE, mSeq, mAsg, mIfS, mB, mOr, mNot, mIs, mSkip, mCall, mCons, mNil, mVar, mOp, tgName, List.getElem?_cons_zero, List.getElem?_cons_succ, List.set_cons_zero, List.set_cons_succ, Option.bind_some, h1, h2, h3, i2, if_true, i1, Bool.not_true, q]
theorem r_turns (F : RF cl k n ts) : ∀ (ds : List D) (e3 e4 e5 e6 e7 e8 : Option D) {M : MM}, Cup [] M →
    ∃ (f5 f7 f8 : Option D) (M' : MM), forD (tgName 7) (rQ cl) ds (rE k (cD n ts) e3 e4 e5 e6 e7 e8) M = some (.nx (rE k (cD n ts) e3 e4 f5 e6 f7 f8), M') ∧ Cup [] M'
  | [], e3, e4, e5, e6, e7, e8, M, c => ⟨e5, e7, e8, M, rfl, c⟩
  | d :: ds, e3, e4, e5, e6, e7, e8, M, c => by
    obtain ⟨f5, f8, M1, q1, c1⟩ := r_Q F e3 e4 e5 e6 (some d) e8 c
    obtain ⟨g5, g7, g8, M2, q2, c2⟩ := r_turns F ds e3 e4 f5 e6 (some d) f8 c1
    refine ⟨g5, g7, g8, M2, ?_, c2⟩
    rw [← q2]
    exact forD_nx rfl q1
end
theorem mForR_eq {rg : List D → Option (Int × Int)} {fa : FA} {tg : FT} {f : FS} {r : En} {M M1 : MM} {ds : List D} {i j : Int} (h1 : fa r M = some (ds, M1)) (h2 : rg ds = some (i, j)) : mForR rg fa tg f r M = forD tg f (rangeD i (j - i).toNat) r M1 := by
  unfold mForR
  rw [h1]
  simp only []
  rw [h2]
theorem g_Lright {k n : Nat} {ts : List (Int × Int)} (c : Co k n ts) (h28 : ts.length ≤ 28) (l : Nat) {M : MM} (h : Cup [] M) :
    ∃ M', G (l + 8) .Lright [.mu 0, .int k, cD n ts] M = some (.bl true, M') ∧ Cup [] M' := by
  have F := rf c h28 l
  have n9 := c.n9
  obtain ⟨f3, f4, f5, q1⟩ := r_loop F c M (List.range n) (fun j h => List.mem_range.mp h) none none none none none none
  obtain ⟨fs, M1, q2, c1, nd, hb, ln⟩ := F.besides h
  obtain ⟨g5, g7, g8, M2, q3, c2⟩ := r_turns F (rangeD 0 4) f3 f4 f5 (some (.tup (fs.map D.int))) none none c1
  refine ⟨M2, ?_, c2⟩
  show mFun 11 (B_Lright (G (l + 7))) [.mu 0, .int k, cD n ts] M = _
  have p0 := F.isco (cD n ts) M (good_mono (good_cD (by have := c.len; omega)) (by decide))
  rw [c.co] at p0
  have p1 := r_P F c fs nd hb ln f3 f4 f5 none none M1
  have ix : oIx M (cD n ts) (.int 0) = some (.int n) := cD_0 n ts
  generalize G (l + 7) = cl at *
  have st : startD 11 [.mu 0, .int k, cD n ts] = rE k (cD n ts) none none none none none none := rfl
  rw [← range_nD] at q1
  generalize cD (n : Int) ts = co at *
  have s1 : mIfS (mB (mOp oIsNot (mCall (cl .p_is_company) (mCons (mVar 1) (mCons (mVar 2) mNil))) (mC (.bl true)))) (mRet (mC (.bl false))) mSkip (rE k co none none none none none none) M = some (.nx (rE k co none none none none none none), M) := by
    have f1 : mCall (cl .p_is_company) (mCons (mVar 1) (mCons (mVar 2) mNil)) (rE k co none none none none none none) M = some (.bl true, M) := by
      simp only [rE, mCall, mCons, mNil, mVar, List.getElem?_cons_zero, List.getElem?_cons_succ, Option.bind_some, p0]
    have f2 : mC (.bl true) (rE k co none none none none none none) M = some (.bl true, M) := rfl
    have q : oIsNot M (.bl true) (.bl true) = some (.bl false) := rfl
    rw [mIfS_false (mB_eq (mOp_eq f1 f2 q))]
    rfl
  have s2 : mForR rng1 (mCons (mOp oIx (mVar 2) (mC (.int 0))) mNil) (tgName 3) (mSeq rA (mSeq (rB cl) (mSeq (rC cl) (rD cl)))) (rE k co none none none none none none) M = some (.nx (rE k co f3 f4 f5 none none none), M) := by
    have f : mCons (mOp oIx (mVar 2) (mC (.int 0))) mNil (rE k co none none none none none none) M = some ([.int n], M) := by
      simp only [rE, mCons, mNil, mOp, mVar, mC, List.getElem?_cons_zero, List.getElem?_cons_succ, Option.bind_some, ix]
    have e0 : ((n : Int) - 0).toNat = n := by omega
    rw [mForR_eq f (rng1_n n (by omega)), e0]
    exact q1
  have s3 : mAsg (mCall (cl .Lsome_besides) (mCons (mVar 0) (mCons (mVar 1) (mCons (mVar 2) mNil)))) (tgName 6) (rE k co f3 f4 f5 none none none) M = some (.nx (rE k co f3 f4 f5 (some (.tup (fs.map D.int))) none none), M1) := by
    simp only [rE, mAsg, mCall, mCons, mNil, mVar, tgName, List.getElem?_cons_zero, List.getElem?_cons_succ, List.set_cons_zero, List.set_cons_succ, Option.bind_some, q2]
  have s5 : mForR rng1 (mCons (mC (.int 4)) mNil) (tgName 7) (rQ cl) (rE k co f3 f4 f5 (some (.tup (fs.map D.int))) none none) M1 = some (.nx (rE k co f3 f4 g5 (some (.tup (fs.map D.int))) g7 g8), M2) := by
    have f : mCons (mC (.int 4)) mNil (rE k co f3 f4 f5 (some (.tup (fs.map D.int))) none none) M1 = some ([.int 4], M1) := rfl
    rw [mForR_eq f (rng1_n 4 (by decide))]
    exact q3
  unfold mFun
  rw [st, right_eq, mSeq_nx s1, mSeq_nx s2, mSeq_nx s3, mSeq_nx p1, mSeq_nx s5]
  rfl
end MT

namespace MT
open PySem PySem.Spec PyProof.Rows L2 NL
def lT (cl : Fid → FC) : FS := (mSeq (mAsg (mCall (cl .Lnamed) (mCons (mVar 1) mNil)) (tgName 3)) (mIfS (mB (mNot (mCall (cl .Lright) (mCons (mVar 1) (mCons (mVar 3) (mCons (mCall (cl .Lcompany) (mCons (mVar 1) (mCons (mVar 3) (mCons (mC (.int 0)) (mCons (mC (.int 5)) mNil))))) mNil)))))) (mRet (mC (.bl false))) mSkip))
def lA1 : FS := (mAsg (mTup (mCons (mC (.int 4)) (mCons (mTup (mCons (mTup (mCons (mC (.int 0)) (mCons (mC (.int 2)) mNil))) (mCons (mTup (mCons (mC (.int 1)) (mCons (mC (.int 3)) mNil))) mNil))) mNil))) (tgName 4))
def lA2 : FS := (mAsg (mLst (mCons (mTup (mCons (mC (.int 2)) (mCons (mVar 4) (mCons (mC (.bl true)) mNil)))) (mCons (mTup (mCons (mC (.int 1)) (mCons (mVar 4) (mCons (mC (.bl true)) mNil)))) (mCons (mTup (mCons (mC (.int 3)) (mCons (mTup (mCons (mC (.int 2)) (mCons (mTup mNil) mNil))) (mCons (mC (.bl false)) mNil)))) (mCons (mTup (mCons (mC (.int 1)) (mCons (mTup (mCons (mC (.int 2)) (mCons (mTup (mCons (mTup (mCons (mC (.int 1)) (mCons (mC (.int 0)) mNil))) mNil)) mNil))) (mCons (mC (.bl false)) mNil)))) (mCons (mTup (mCons (mC (.int 1)) (mCons (mTup (mCons (mC (.int 1)) (mCons (mTup mNil) mNil))) (mCons (mC (.bl true)) mNil)))) (mCons (mTup (mCons (mC (.int 1)) (mCons (mTup (mCons (mC (.int 0)) (mCons (mTup mNil) mNil))) (mCons (mC (.bl false)) mNil)))) (mCons (mTup (mCons (mC (.int 3)) (mCons (mTup (mCons (mC (.int 9)) (mCons (mTup mNil) mNil))) (mCons (mC (.bl true)) mNil)))) mNil)))))))) (tgName 5))
def lA3 : FS := (mAsg (mOp oAdd (mVar 5) (mLst (mCons (mTup (mCons (mC (.int 3)) (mCons (mTup (mCons (mC (.int 10)) (mCons (mTup mNil) mNil))) (mCons (mC (.bl false)) mNil)))) (mCons (mTup (mCons (mC (.int 2)) (mCons (mTup (mCons (mC (.int 4)) (mCons (mTup (mCons (mTup (mCons (mC (.int 1)) (mCons (mC (.int 3)) mNil))) (mCons (mTup (mCons (mC (.int 0)) (mCons (mC (.int 2)) mNil))) mNil))) mNil))) (mCons (mC (.bl false)) mNil)))) (mCons (mTup (mCons (mC (.int 2)) (mCons (mTup (mCons (mC (.int 4)) (mCons (mTup (mCons (mTup (mCons (mC (.int 0)) (mCons (mC (.int 2)) mNil))) (mCons (mTup (mCons (mC (.int 0)) (mCons (mC (.int 2)) mNil))) mNil))) mNil))) (mCons (mC (.bl false)) mNil)))) (mCons (mTup (mCons (mC (.int 2)) (mCons (mTup (mCons (mC (.int 4)) (mCons (mTup (mCons (mTup (mCons (mC (.int 0)) (mCons (mC (.int 4)) mNil))) mNil)) mNil))) (mCons (mC (.bl false)) mNil)))) (mCons (mTup (mCons (mC (.int 2)) (mCons (mTup (mCons (mC (.int 4)) (mCons (mTup (mCons (mTup (mCons (mC (.int 2)) (mCons (mC (.int 2)) mNil))) mNil)) mNil))) (mCons (mC (.bl false)) mNil)))) mNil))))))) (tgName 5))
def lI1 (cl : Fid → FC) : FS := (mIfS (mB (mOp oNe (mLc itemsL (mVar 5) (tgTup 3 (tgCons (tgName 3) (tgCons (tgName 6) (tgCons (tgName 7) tgNil)))) (mB (mOp oNe (mCall (cl .p_is_company) (mCons (mVar 3) (mCons (mVar 6) mNil))) (mVar 7))) (mC (.int 1)) [3, 6, 7]) (mLst mNil))) (mRet (mC (.bl false))) mSkip)
def lI2 (cl : Fid → FC) : FS := (mIfS (mB (mOr (mOp oIsNot (mCall (cl .p_do_know) (mCons (mC (.int 2)) (mCons (mVar 4) (mCons (mC (.int 3)) (mCons (mC (.int 1)) mNil))))) (mC (.bl true))) (mOr (mOp oIsNot (mCall (cl .p_do_know) (mCons (mC (.int 2)) (mCons (mVar 4) (mCons (mC (.int 0)) (mCons (mC (.int 1)) mNil))))) (mC (.bl false))) (mOr (mOp oNe (mCall (cl .p_known_to) (mCons (mC (.int 2)) (mCons (mVar 4) (mCons (mC (.int 0)) mNil)))) (mTup (mCons (mC (.int 2)) mNil))) (mOp oNe (mCall (cl .p_known_to) (mCons (mC (.int 1)) (mCons (mTup (mCons (mC (.int 1)) (mCons (mTup mNil) mNil))) (mCons (mC (.int 0)) mNil)))) (mTup mNil)))))) (mRet (mC (.bl false))) mSkip)
def lI3 (cl : Fid → FC) : FS := (mIfS (mB (mOr (mOp oNe (mCall (cl .p_part_of) (mCons (mC (.int 2)) (mCons (mVar 4) (mCons (mTup (mCons (mC (.int 3)) mNil)) mNil)))) (mTup (mCons (mC (.int 3)) (mCons (mTup (mCons (mTup (mCons (mC (.int 1)) (mCons (mC (.int 2)) mNil))) mNil)) mNil)))) (mOr (mOp oNe (mCall (cl .p_part_of) (mCons (mC (.int 2)) (mCons (mVar 4) (mCons (mTup (mCons (mC (.int 3)) (mCons (mC (.int 2)) mNil))) mNil)))) (mTup (mCons (mC (.int 4)) (mCons (mTup (mCons (mTup (mCons (mC (.int 0)) (mCons (mC (.int 3)) mNil))) (mCons (mTup (mCons (mC (.int 1)) (mCons (mC (.int 2)) mNil))) mNil))) mNil)))) (mOp oNe (mCall (cl .p_part_of) (mCons (mC (.int 2)) (mCons (mVar 4) (mCons (mTup mNil) mNil)))) (mTup (mCons (mC (.int 2)) (mCons (mTup mNil) mNil))))))) (mRet (mC (.bl false))) mSkip)
def lR (cl : Fid → FC) : FS := (mRet (mAnd (mOp oEq (mCall (cl .p_part_of) (mCons (mC (.int 1)) (mCons (mTup (mCons (mC (.int 5)) (mCons (mTup (mCons (mTup (mCons (mC (.int 1)) (mCons (mC (.int 4)) mNil))) (mCons (mTup (mCons (mC (.int 2)) (mCons (mC (.int 3)) mNil))) mNil))) mNil))) (mCons (mTup (mCons (mC (.int 4)) (mCons (mC (.int 1)) (mCons (mC (.int 3)) mNil)))) mNil)))) (mTup (mCons (mC (.int 4)) (mCons (mTup (mCons (mTup (mCons (mC (.int 1)) (mCons (mC (.int 2)) mNil))) mNil)) mNil)))) (mOp oEq (mCall (cl .p_part_of) (mCons (mC (.int 3)) (mCons (mTup (mCons (mC (.int 3)) (mCons (mTup (mCons (mTup (mCons (mC (.int 0)) (mCons (mC (.int 2)) mNil))) mNil)) mNil))) (mCons (mTup mNil) mNil)))) (mTup (mCons (mC (.int 3)) (mCons (mTup (mCons (mTup (mCons (mC (.int 0)) (mCons (mC (.int 2)) mNil))) mNil)) mNil))))))
theorem law_eq (cl : Fid → FC) : B_Law cl = mMu 1 g_Lcup (mCons (mVar 0) mNil) (mSeq (mForR rng1 (mCons (mC (.int 4)) mNil) (tgName 2) (lT cl)) (mSeq lA1 (mSeq lA2 (mSeq lA3 (mSeq (lI1 cl) (mSeq (lI2 cl) (mSeq (lI3 cl) (lR cl)))))))) := rfl
/-! ### the cup of the law -/
theorem g_lcup {ns : List Int} (hl : ns.length ≤ 63) {d : D} (hd : d = .fz (ns.map D.int) ∨ d = .lst (ns.map D.int)) : ∃ a b : Int, g_Lcup [d] [] = some ([.int a, .int b], []) ∧ 0 ≤ a ∧ 0 ≤ b ∧ b < 1099511627776 := by
  have h0 : ∃ i : Int, atI (ns.map D.int ++ [D.int 0]) 0 = some (.int i) := by
    cases ns with
    | nil => exact ⟨0, at0 _ _⟩
    | cons x xs => exact ⟨x, at0 _ _⟩
  obtain ⟨i, hi⟩ := h0
  have hv : ∃ v : Int, (if i < 0 then -i else i) = v ∧ 0 ≤ v := by
    by_cases h : i < 0
    · exact ⟨-i, if_pos h, by omega⟩
    · exact ⟨i, if_neg h, by omega⟩
  obtain ⟨v, hv, hv0⟩ := hv
  have hb0 : 0 ≤ (v * 251 + 2111) % 2077503301 := Int.emod_nonneg _ (by decide)
  have hb1 : (v * 251 + 2111) % 2077503301 < 2077503301 := Int.emod_lt_of_pos _ (by decide)
  have l1 : (ns.map D.int).length + ([D.int 0] : List D).length ≤ 1000 := by simp; omega
  have oA : oAdd [] (.lst (ns.map D.int)) (.lst [.int 0]) = some (.lst (ns.map D.int ++ [.int 0])) := oAdd_ll l1
  have oX : oIx [] (.lst (ns.map D.int ++ [.int 0])) (.int 0) = some (.int i) := hi
  have oB : oAbs [] [.int i] = some (.int v) := by
    rw [← hv]
    rfl
  have oM : oMul [] (.int v) (.int 251) = some (.int (v * 251)) := if_pos (.inr (by decide))
  have oP : oPow [] (.int 10) (.int 18) = some (.int 1000000000000000000) := by
    have q : (10 : Int) ^ (18 : Int).toNat = 1000000000000000000 := by decide +kernel
    show (if (0 : Int) ≤ 18 ∧ (18 : Int) ≤ 1000000 ∧ (10 : Int).natAbs < 2 ^ 64 then some (D.int ((10 : Int) ^ (18 : Int).toNat)) else none) = _
    rw [if_pos (by decide), q]
  have oR : ∀ x : Int, oMod [] (.int x) (.int 2077503301) = some (.int (x % 2077503301)) := fun x => by
    show (if (0 : Int) < 2077503301 then some (D.int (x % 2077503301)) else none) = _
    exact if_pos (by decide)
  have oD : oDiv [] (.int v) (.int 43) = some (.int (v / 43)) := by
    show (if (0 : Int) < 43 ∧ (43 : Int) < 1073741824 then some (D.int (v / 43)) else none) = _
    exact if_pos (by decide)
  have oC : ∀ x y : Int, oAdd [] (.int x) (.int y) = some (.int (x + y)) := fun _ _ => rfl
  have oN : ∀ x : Int, oInt [] [.int x] = some (.int x) := fun _ => rfl
  have oG : ∀ x y : Int, oGe [] (.int x) (.int y) = some (.bl (decide (y ≤ x))) := fun _ _ => rfl
  have oL : oList [] [d] = some (.lst (ns.map D.int)) := by
    rcases hd with rfl | rfl <;> rfl
  have s0 : startD 2 [d] = [some d, none] := rfl
  by_cases hbig : (1000000000000000000 : Int) ≤ v
  · refine ⟨v / 43, (v * 251 + 2111) % 2077503301 + 137, ?_, Int.ediv_nonneg hv0 (by decide), by omega, by omega⟩
    unfold g_Lcup mFunF
    rw [s0]
    simp only [mAsg, mFn, mCons, mNil, mVar, mC, mOp, mLst, mIf, tgName, List.getElem?_cons_zero, List.getElem?_cons_succ, List.set_cons_zero, List.set_cons_succ, oL, oA, oX, oB, oM, oP, oR, oD, oC, oN, oG, decide_eq_true hbig]
  · refine ⟨0, (v * 251 + 2111) % 2077503301 + 137, ?_, by decide, by omega, by omega⟩
    unfold g_Lcup mFunF
    rw [s0]
    simp only [mAsg, mFn, mCons, mNil, mVar, mC, mOp, mLst, mIf, tgName, List.getElem?_cons_zero, List.getElem?_cons_succ, List.set_cons_zero, List.set_cons_succ, oL, oA, oX, oB, oM, oP, oR, oD, oC, oN, oG, decide_eq_false hbig]
/-! ### the turns -/
def lE (d : D) (e2 e3 e4 e5 e6 e7 : Option D) : En := [some d, some (.mu 0), e2, e3, e4, e5, e6, e7]
theorem l_turn (d : D) (e2 e3 e4 e5 e6 e7 : Option D) {M : MM} (c : Cup [] M) : ∃ (f3 : Option D) (M' : MM), lT (G 41) (lE d e2 e3 e4 e5 e6 e7) M = some (.nx (lE d e2 f3 e4 e5 e6 e7), M') ∧ Cup [] M' := by
  obtain ⟨k, M1, h1, hk, c1⟩ := cup_named 38 c
  obtain ⟨k0, rfl⟩ : ∃ k0 : Nat, k = (k0 : Int) := ⟨k.toNat, by have := hk.1; omega⟩
  obtain ⟨n, ts, M2, h2, co, hl, c2⟩ := g_Lcompany 39 k0 (by have := hk.1; omega) (by have := hk.2; omega) c1
  obtain ⟨M3, h3, c3⟩ := g_Lright co hl 33 c2
  refine ⟨some (.int k0), M3, ?_, c3⟩
  generalize cD (n : Int) ts = x at *
  have h1' : G 41 .Lnamed [.mu 0] M = some (.int k0, M1) := h1
  have h2' : G 41 .Lcompany [.mu 0, .int k0, .int 0, .int 5] M1 = some (x, M2) := h2
  have h3' : G 41 .Lright [.mu 0, .int k0, x] M2 = some (.bl true, M3) := h3
  simp only [lT, lE, mSeq, mAsg, mIfS, mB, mNot, mSkip, mCall, mCons, mNil, mVar, mC, tgName, List.getElem?_cons_zero, List.getElem?_cons_succ, List.set_cons_zero, List.set_cons_succ, Option.bind_some, h1', h2', h3', Bool.not_true]
theorem l_turns (d : D) : ∀ (ds : List D) (e2 e3 e4 e5 e6 e7 : Option D) {M : MM}, Cup [] M → ∃ (f2 f3 : Option D) (M' : MM), forD (tgName 2) (lT (G 41)) ds (lE d e2 e3 e4 e5 e6 e7) M = some (.nx (lE d f2 f3 e4 e5 e6 e7), M') ∧ Cup [] M'
  | [], e2, e3, e4, e5, e6, e7, M, c => ⟨e2, e3, M, rfl, c⟩
  | x :: ds, e2, e3, e4, e5, e6, e7, M, c => by
    obtain ⟨f3, M1, q1, c1⟩ := l_turn d (some x) e3 e4 e5 e6 e7 c
    obtain ⟨g2, g3, M2, q2, c2⟩ := l_turns d ds (some x) f3 e4 e5 e6 e7 c1
    refine ⟨g2, g3, M2, ?_, c2⟩
    rw [← q2]
    exact forD_nx rfl q1
/-! ### the rows -/
def t4 : List (Int × Int) := [(0, 2), (1, 3)]
def four : D := .tup [.int 4, .tup [.tup [.int 0, .int 2], .tup [.int 1, .int 3]]]
def rw1 : List (Int × D × Bool) := [(2, four, true), (1, four, true), (3, .tup [.int 2, .tup []], false), (1, .tup [.int 2, .tup [.tup [.int 1, .int 0]]], false), (1, .tup [.int 1, .tup []], true), (1, .tup [.int 0, .tup []], false), (3, .tup [.int 9, .tup []], true)]
def rw2 : List (Int × D × Bool) := [(3, .tup [.int 10, .tup []], false), (2, .tup [.int 4, .tup [.tup [.int 1, .int 3], .tup [.int 0, .int 2]]], false), (2, .tup [.int 4, .tup [.tup [.int 0, .int 2], .tup [.int 0, .int 2]]], false), (2, .tup [.int 4, .tup [.tup [.int 0, .int 4]]], false), (2, .tup [.int 4, .tup [.tup [.int 2, .int 2]]], false)]
def rwD (x : Int × D × Bool) : D := .tup [.int x.1, x.2.1, .bl x.2.2]
theorem rw_ok : ∀ x ∈ rw1 ++ rw2, (1 ≤ x.1 ∧ x.1 ≤ 3) ∧ good 6 x.2.1 = true ∧ coB x.1 x.2.1 = x.2.2 := by decide +kernel
theorem co4 : Co 2 4 t4 := ⟨by decide, by decide, by decide, by decide, fun p hp => mem_allP.mp ((by decide +kernel : ∀ p ∈ t4, p ∈ allP 4) p hp), by decide +kernel⟩
theorem co5 : Co 1 5 [(1, 4), (2, 3)] := ⟨by decide, by decide, by decide, by decide, fun p hp => mem_allP.mp ((by decide +kernel : ∀ p ∈ ([(1, 4), (2, 3)] : List (Int × Int)), p ∈ allP 5) p hp), by decide +kernel⟩
theorem co1 : Co 1 1 [] := ⟨by decide, by decide, by decide, by decide, fun p hp => mem_allP.mp ((by decide +kernel : ∀ p ∈ ([] : List (Int × Int)), p ∈ allP 1) p hp), by decide +kernel⟩
theorem co3 : Co 3 3 [(0, 2)] := ⟨by decide, by decide, by decide, by decide, fun p hp => mem_allP.mp ((by decide +kernel : ∀ p ∈ ([(0, 2)] : List (Int × Int)), p ∈ allP 3) p hp), by decide +kernel⟩
theorem l_A1 (d : D) (e2 e3 e4 e5 e6 e7 : Option D) (M : MM) : lA1 (lE d e2 e3 e4 e5 e6 e7) M = some (.nx (lE d e2 e3 (some four) e5 e6 e7), M) := rfl
theorem l_A2 (d : D) (e2 e3 e5 e6 e7 : Option D) (M : MM) : lA2 (lE d e2 e3 (some four) e5 e6 e7) M = some (.nx (lE d e2 e3 (some four) (some (.lst (rw1.map rwD))) e6 e7), M) := rfl
theorem l_A3 (d : D) (e2 e3 e6 e7 : Option D) (M : MM) : lA3 (lE d e2 e3 (some four) (some (.lst (rw1.map rwD))) e6 e7) M = some (.nx (lE d e2 e3 (some four) (some (.lst ((rw1 ++ rw2).map rwD))) e6 e7), M) := rfl
theorem l_I1 (d : D) (e2 e3 e6 e7 : Option D) (M : MM) : ∃ f3 f6 f7 : Option D, lI1 (G 41) (lE d e2 e3 (some four) (some (.lst ((rw1 ++ rw2).map rwD))) e6 e7) M = some (.nx (lE d e2 f3 (some four) (some (.lst ((rw1 ++ rw2).map rwD))) f6 f7), M) := by
  refine ⟨e3, e6, e7, ?_⟩
  have lc : lcD (tgTup 3 (tgCons (tgName 3) (tgCons (tgName 6) (tgCons (tgName 7) tgNil)))) (mB (mOp oNe (mCall (G 41 .p_is_company) (mCons (mVar 3) (mCons (mVar 6) mNil))) (mVar 7))) (mC (.int 1)) (wipeD (lE d e2 e3 (some four) (some (.lst ((rw1 ++ rw2).map rwD))) e6 e7) [3, 6, 7]) ((rw1 ++ rw2).map rwD) M = some ((((rw1 ++ rw2).map rwD).filter fun _ => false).map fun _ => .int 1, M) := by
    refine lcD_filter (fun _ => false) (fun _ => .int 1) fun x hx => ?_
    obtain ⟨y, hy, rfl⟩ := List.mem_map.mp hx
    obtain ⟨hk, hg, hb⟩ := rw_ok y hy
    have g := g_is_company (named := y.1) hk 35 y.2.1 M hg
    rw [hb] at g
    have g' : G 41 .p_is_company [.int y.1, y.2.1] M = some (.bl y.2.2, M) := g
    refine ⟨lE d e2 (some (.int y.1)) (some four) (some (.lst ((rw1 ++ rw2).map rwD))) (some y.2.1) (some (.bl y.2.2)), rfl, ?_, fun h => by cases h⟩
    have f1 : mCall (G 41 .p_is_company) (mCons (mVar 3) (mCons (mVar 6) mNil)) (lE d e2 (some (.int y.1)) (some four) (some (.lst ((rw1 ++ rw2).map rwD))) (some y.2.1) (some (.bl y.2.2))) M = some (.bl y.2.2, M) := by
      simp only [lE, mCall, mCons, mNil, mVar, List.getElem?_cons_zero, List.getElem?_cons_succ, g']
    exact mB_eq (mOp_eq f1 (rfl : mVar 7 (lE d e2 (some (.int y.1)) (some four) (some (.lst ((rw1 ++ rw2).map rwD))) (some y.2.1) (some (.bl y.2.2))) M = some (.bl y.2.2, M)) (oNe_self (n := 0) rfl (by decide)))
  have f2 : mLc itemsL (mVar 5) (tgTup 3 (tgCons (tgName 3) (tgCons (tgName 6) (tgCons (tgName 7) tgNil)))) (mB (mOp oNe (mCall (G 41 .p_is_company) (mCons (mVar 3) (mCons (mVar 6) mNil))) (mVar 7))) (mC (.int 1)) [3, 6, 7] (lE d e2 e3 (some four) (some (.lst ((rw1 ++ rw2).map rwD))) e6 e7) M = some (.lst [], M) := by
    have v : mVar 5 (lE d e2 e3 (some four) (some (.lst ((rw1 ++ rw2).map rwD))) e6 e7) M = some (.lst ((rw1 ++ rw2).map rwD), M) := rfl
    unfold mLc
    rw [v]
    simp only [itemsL]
    rw [if_pos (by decide), lc]
    rfl
  have q0 : oNe M (.lst []) (.lst []) = some (.bl false) := oNe_self (n := 1) rfl (by decide)
  unfold lI1
  rw [mIfS_false (mB_eq (mOp_eq f2 (rfl : mLst mNil _ M = some (.lst [], M)) q0))]
  rfl
theorem oNe_rfl {d : D} {M : MM} (h : good 5 d = true) : oNe M d d = some (.bl false) := oNe_self h (by decide)
theorem l_I2 (d : D) (e2 e3 e5 e6 e7 : Option D) (M : MM) : lI2 (G 41) (lE d e2 e3 (some four) e5 e6 e7) M = some (.nx (lE d e2 e3 (some four) e5 e6 e7), M) := by
  have F := rf co4 (by decide) 34
  have h1 : G 41 .p_do_know [.int 2, four, .int 3, .int 1] M = some (.bl true, M) := by
    have := F.know 3 1 M (by decide) (by decide) (by decide)
    have q : inT t4 ((3 : Nat) : Int) ((1 : Nat) : Int) = true := by decide +kernel
    rw [q] at this
    exact this
  have h2 : G 41 .p_do_know [.int 2, four, .int 0, .int 1] M = some (.bl false, M) := by
    have := F.know 0 1 M (by decide) (by decide) (by decide)
    have q : inT t4 ((0 : Nat) : Int) ((1 : Nat) : Int) = false := by decide +kernel
    rw [q] at this
    exact this
  have h3 : G 41 .p_known_to [.int 2, four, .int 0] M = some (.tup [.int 2], M) := by
    have := F.known 0 M (by decide)
    have q : ((List.range 4).filter fun (j : Nat) => inT t4 ((0 : Nat) : Int) j) = [2] := by decide +kernel
    rw [q] at this
    exact this
  have h4 : G 41 .p_known_to [.int 1, .tup [.int 1, .tup []], .int 0] M = some (.tup [], M) := by
    have := (rf co1 (by decide) 34).known 0 M (by decide)
    have q : ((List.range 1).filter fun (j : Nat) => inT [] ((0 : Nat) : Int) j) = [] := by decide +kernel
    rw [q] at this
    exact this
  generalize G 41 = cl at *
  generalize four = x at *
  have f1 : mOp oIsNot (mCall (cl .p_do_know) (mCons (mC (.int 2)) (mCons (mVar 4) (mCons (mC (.int 3)) (mCons (mC (.int 1)) mNil))))) (mC (.bl true)) (lE d e2 e3 (some x) e5 e6 e7) M = some (.bl false, M) := by
    refine mOp_eq (x := .bl true) (y := .bl true) (M1 := M) ?_ rfl rfl
    simp only [lE, mCall, mCons, mNil, mVar, mC, List.getElem?_cons_zero, List.getElem?_cons_succ, h1]
  have f2 : mOp oIsNot (mCall (cl .p_do_know) (mCons (mC (.int 2)) (mCons (mVar 4) (mCons (mC (.int 0)) (mCons (mC (.int 1)) mNil))))) (mC (.bl false)) (lE d e2 e3 (some x) e5 e6 e7) M = some (.bl false, M) := by
    refine mOp_eq (x := .bl false) (y := .bl false) (M1 := M) ?_ rfl rfl
    simp only [lE, mCall, mCons, mNil, mVar, mC, List.getElem?_cons_zero, List.getElem?_cons_succ, h2]
  have f3 : mOp oNe (mCall (cl .p_known_to) (mCons (mC (.int 2)) (mCons (mVar 4) (mCons (mC (.int 0)) mNil)))) (mTup (mCons (mC (.int 2)) mNil)) (lE d e2 e3 (some x) e5 e6 e7) M = some (.bl false, M) := by
    refine mOp_eq (x := .tup [.int 2]) (y := .tup [.int 2]) (M1 := M) ?_ rfl (oNe_rfl rfl)
    simp only [lE, mCall, mCons, mNil, mVar, mC, List.getElem?_cons_zero, List.getElem?_cons_succ, h3]
  have f4 : mOp oNe (mCall (cl .p_known_to) (mCons (mC (.int 1)) (mCons (mTup (mCons (mC (.int 1)) (mCons (mTup mNil) mNil))) (mCons (mC (.int 0)) mNil)))) (mTup mNil) (lE d e2 e3 (some x) e5 e6 e7) M = some (.bl false, M) := by
    refine mOp_eq (x := .tup []) (y := .tup []) (M1 := M) ?_ rfl (oNe_rfl rfl)
    simp only [lE, mCall, mCons, mNil, mTup, mVar, mC, List.getElem?_cons_zero, List.getElem?_cons_succ, h4]
  unfold lI2
  rw [mIfS_false (mB_eq (mOr_two f1 (mOr_two f2 (mOr_two f3 f4))))]
  rfl
def p1 : D := .tup [.int 3, .tup [.tup [.int 1, .int 2]]]
def p2 : D := .tup [.int 4, .tup [.tup [.int 0, .int 3], .tup [.int 1, .int 2]]]
def p3 : D := .tup [.int 2, .tup []]
def p4 : D := .tup [.int 4, .tup [.tup [.int 1, .int 2]]]
def p5 : D := .tup [.int 3, .tup [.tup [.int 0, .int 2]]]
theorem l_I3 (d : D) (e2 e3 e5 e6 e7 : Option D) (M : MM) : lI3 (G 41) (lE d e2 e3 (some four) e5 e6 e7) M = some (.nx (lE d e2 e3 (some four) e5 e6 e7), M) := by
  have F := rf co4 (by decide) 34
  have h1 : G 41 .p_part_of [.int 2, four, .tup [.int 3]] M = some (p1, M) := by
    have := F.part_of [3] M (by decide) (by decide) (by decide)
    have q : ptP 2 [3] t4 = [(1, 2)] := by decide +kernel
    unfold ptD at this
    rw [q] at this
    exact this
  have h2 : G 41 .p_part_of [.int 2, four, .tup [.int 3, .int 2]] M = some (p2, M) := by
    have := F.part_of [3, 2] M (by decide) (by decide) (by decide)
    have q : ptP 2 [3, 2] t4 = [(0, 3), (1, 2)] := by decide +kernel
    unfold ptD at this
    rw [q] at this
    exact this
  have h3 : G 41 .p_part_of [.int 2, four, .tup []] M = some (p3, M) := by
    have := F.part_of [] M (by decide) (by decide) (by decide)
    have q : ptP 2 [] t4 = [] := by decide +kernel
    unfold ptD at this
    rw [q] at this
    exact this
  generalize G 41 = cl at *
  generalize four = x at *
  have f1 : mOp oNe (mCall (cl .p_part_of) (mCons (mC (.int 2)) (mCons (mVar 4) (mCons (mTup (mCons (mC (.int 3)) mNil)) mNil)))) (mTup (mCons (mC (.int 3)) (mCons (mTup (mCons (mTup (mCons (mC (.int 1)) (mCons (mC (.int 2)) mNil))) mNil)) mNil))) (lE d e2 e3 (some x) e5 e6 e7) M = some (.bl false, M) := by
    refine mOp_eq (x := p1) (y := p1) (M1 := M) ?_ rfl (oNe_rfl rfl)
    simp only [lE, mCall, mCons, mNil, mTup, mVar, mC, List.getElem?_cons_zero, List.getElem?_cons_succ, h1]
  have f2 : mOp oNe (mCall (cl .p_part_of) (mCons (mC (.int 2)) (mCons (mVar 4) (mCons (mTup (mCons (mC (.int 3)) (mCons (mC (.int 2)) mNil))) mNil)))) (mTup (mCons (mC (.int 4)) (mCons (mTup (mCons (mTup (mCons (mC (.int 0)) (mCons (mC (.int 3)) mNil))) (mCons (mTup (mCons (mC (.int 1)) (mCons (mC (.int 2)) mNil))) mNil))) mNil))) (lE d e2 e3 (some x) e5 e6 e7) M = some (.bl false, M) := by
    refine mOp_eq (x := p2) (y := p2) (M1 := M) ?_ rfl (oNe_rfl rfl)
    simp only [lE, mCall, mCons, mNil, mTup, mVar, mC, List.getElem?_cons_zero, List.getElem?_cons_succ, h2]
  have f3 : mOp oNe (mCall (cl .p_part_of) (mCons (mC (.int 2)) (mCons (mVar 4) (mCons (mTup mNil) mNil)))) (mTup (mCons (mC (.int 2)) (mCons (mTup mNil) mNil))) (lE d e2 e3 (some x) e5 e6 e7) M = some (.bl false, M) := by
    refine mOp_eq (x := p3) (y := p3) (M1 := M) ?_ rfl (oNe_rfl rfl)
    simp only [lE, mCall, mCons, mNil, mTup, mVar, mC, List.getElem?_cons_zero, List.getElem?_cons_succ, h3]
  unfold lI3
  rw [mIfS_false (mB_eq (mOr_two f1 (mOr_two f2 f3)))]
  rfl
theorem mAnd_two {f g : FE} {r : En} {M M1 : MM} {x : Option (D × MM)} (h : f r M = some (.bl true, M1)) (h2 : g r M1 = x) : mAnd f g r M = x := by
  unfold mAnd
  rw [h]
  exact h2
theorem l_R (r : En) (M : MM) : lR (G 41) r M = some (.rt (.bl true), M) := by
  have h1 : G 41 .p_part_of [.int 1, .tup [.int 5, .tup [.tup [.int 1, .int 4], .tup [.int 2, .int 3]]], .tup [.int 4, .int 1, .int 3]] M = some (p4, M) := by
    have := (rf co5 (by decide) 34).part_of [4, 1, 3] M (by decide) (by decide) (by decide)
    have q : ptP 1 [4, 1, 3] [(1, 4), (2, 3)] = [(1, 2)] := by decide +kernel
    unfold ptD at this
    rw [q] at this
    exact this
  have h2 : G 41 .p_part_of [.int 3, .tup [.int 3, .tup [.tup [.int 0, .int 2]]], .tup []] M = some (p5, M) := by
    have := (rf co3 (by decide) 34).part_of [] M (by decide) (by decide) (by decide)
    have q : ptP 3 [] [(0, 2)] = [(0, 2)] := by decide +kernel
    unfold ptD at this
    rw [q] at this
    exact this
  generalize G 41 = cl at *
  unfold lR mRet
  rw [mAnd_two (M1 := M) (x := some (.bl true, M))]
  · refine mOp_eq (x := p4) (y := p4) (M1 := M) ?_ rfl (oEq_self (n := 5) rfl (by decide))
    simp only [mCall, mCons, mNil, mTup, mVar, mC, h1]
  · refine mOp_eq (x := p5) (y := p5) (M1 := M) ?_ rfl (oEq_self (n := 5) rfl (by decide))
    simp only [mCall, mCons, mNil, mTup, mVar, mC, h2]
theorem law_true : ∀ (ns : List Int) (d : D), ns.length ≤ 63 → (d = .fz (ns.map D.int) ∨ d = .lst (ns.map D.int)) → ∃ M', gLaw 41 [d] [] = some (.bl true, M') := by
  intro ns d hl hd
  obtain ⟨a, b, hc, ha, hb, hb2⟩ := g_lcup hl hd
  obtain ⟨f2, f3, M1, q1, _⟩ := l_turns d (rangeD 0 4) none none none none none none (M := [.lst [.int a, .int b]]) ⟨a, b, rfl, ha, hb, hb2⟩
  obtain ⟨g3, g6, g7, q2⟩ := l_I1 d f2 f3 none none M1
  refine ⟨[], ?_⟩
  show mFun 8 (B_Law (G 41)) [d] [] = _
  have st : startD 8 [d] = [some d, none, none, none, none, none, none, none] := rfl
  have fa : mCons (mVar 0) mNil [some d, none, none, none, none, none, none, none] ([] : MM) = some ([d], []) := rfl
  have sl : mForR rng1 (mCons (mC (.int 4)) mNil) (tgName 2) (lT (G 41)) (lE d none none none none none none) [.lst [.int a, .int b]] = some (.nx (lE d f2 f3 none none none none), M1) := by
    rw [mForR_eq (rfl : mCons (mC (.int 4)) mNil (lE d none none none none none none) [.lst [.int a, .int b]] = some ([.int 4], [.lst [.int a, .int b]])) (rng1_n 4 (by decide))]
    exact q1
  have all : mSeq (mForR rng1 (mCons (mC (.int 4)) mNil) (tgName 2) (lT (G 41))) (mSeq lA1 (mSeq lA2 (mSeq lA3 (mSeq (lI1 (G 41)) (mSeq (lI2 (G 41)) (mSeq (lI3 (G 41)) (lR (G 41)))))))) (lE d none none none none none none) [.lst [.int a, .int b]] = some (.rt (.bl true), M1) := by
    rw [mSeq_nx sl, mSeq_nx (l_A1 ..), mSeq_nx (l_A2 ..), mSeq_nx (l_A3 ..), mSeq_nx q2, mSeq_nx (l_I2 ..), mSeq_nx (l_I3 ..)]
    exact l_R _ _
  have pl : ([D.int a, .int b].all plainD) = true := rfl
  unfold mFun
  rw [st, law_eq]
  unfold mMu
  rw [fa]
  simp only []
  rw [hc]
  simp only []
  rw [if_pos pl]
  have se : [some d, none, none, none, none, none, none, none].set 1 (some (D.mu 0)) = lE d none none none none none none := rfl
  rw [se, all]
  rfl
end MT

namespace MT
open PySem PySem.Spec PyProof.Rows L2 NL
theorem sp_end {K : PySem.W.Frag} {kts : List Addr} (H : Hp) (a : Addr) (ns : List Int) (hl : ns.length ≤ 63) (hT : ∀ k ∈ kts, H k = some (.tbl #[])) (hS : SqL K H a (ns.map V.int)) : spM kts K 1 (gLaw 41) [.ref a] H (fun v _ => v = .bl true) fun _ _ _ => False := by
  have fin : ∀ d : D, RV K H [] [] (.ref a) d → (d = .fz (ns.map D.int) ∨ d = .lst (ns.map D.int)) → spM kts K 1 (gLaw 41) [.ref a] H (fun v _ => v = .bl true) fun _ _ _ => False := fun d rv hd => by
    obtain ⟨M', e⟩ := law_true ns d hl hd
    refine ⟨[], [], [], [d], .bl true, M', ⟨rfl, by simp, fun n a ds h1 _ => by simp at h1, fun _ h => (by cases h), fun k hk => ⟨#[], hT k hk, True.intro⟩⟩, .cons rv .nil, rfl, e, fun H' v _ _ rv => ?_⟩
    cases rv
    rfl
  rcases hS with (h | ⟨o, h⟩) | h
  · exact fin _ (.lst h (by simp) (by simp) (RVs.of_ints ns)) (.inr rfl)
  · exact fin _ (.fz (.inl ⟨o, h⟩) (RVs.of_ints ns)) (.inl rfl)
  · exact fin _ (.fz (.inr h) (RVs.of_ints ns)) (.inl rfl)
theorem all_mk {l : PySem.W.OpenLaw} {w : World} {K : PySem.W.Frag} {h : Heap} {mg : Str → Option Value} {fa : Addr} (X : K.In h) (G : h.Ns mainGlobals mg) (hfa : mg "law" = some (.ref fa))
    {f0 : Addr} {od0 an0 : Option Addr} {sl0 : Array (Option Value)} {oc0 kV0 dc0 pm0 cd0 ct0 : Value}
    {f1 : Addr} {od1 an1 : Option Addr} {sl1 : Array (Option Value)} {oc1 kV1 dc1 pm1 cd1 ct1 : Value}
    {f2 : Addr} {od2 an2 : Option Addr} {sl2 : Array (Option Value)} {oc2 kV2 dc2 pm2 cd2 ct2 : Value}
    {f3 : Addr} {od3 an3 : Option Addr} {sl3 : Array (Option Value)} {oc3 kV3 dc3 pm3 cd3 ct3 : Value}
    {f4 : Addr} {od4 an4 : Option Addr} {sl4 : Array (Option Value)} {oc4 kV4 dc4 pm4 cd4 ct4 : Value}
    {f5 : Addr} {od5 an5 : Option Addr} {sl5 : Array (Option Value)} {oc5 kV5 dc5 pm5 cd5 ct5 : Value}
    {f6 : Addr} {od6 an6 : Option Addr} {sl6 : Array (Option Value)} {oc6 kV6 dc6 pm6 cd6 ct6 : Value}
    {f7 : Addr} {od7 an7 : Option Addr} {sl7 : Array (Option Value)} {oc7 kV7 dc7 pm7 cd7 ct7 : Value}
    {f8 : Addr} {od8 an8 : Option Addr} {sl8 : Array (Option Value)} {oc8 kV8 dc8 pm8 cd8 ct8 : Value}
    {f9 : Addr} {od9 an9 : Option Addr} {sl9 : Array (Option Value)} {oc9 kV9 dc9 pm9 cd9 ct9 : Value}
    {f10 : Addr} {od10 an10 : Option Addr} {sl10 : Array (Option Value)} {oc10 kV10 dc10 pm10 cd10 ct10 : Value}
    {f11 : Addr} {od11 an11 : Option Addr} {sl11 : Array (Option Value)} {oc11 kV11 dc11 pm11 cd11 ct11 : Value}
    {f12 : Addr} {od12 an12 : Option Addr} {sl12 : Array (Option Value)} {oc12 kV12 dc12 pm12 cd12 ct12 : Value}
    {f13 : Addr} {od13 an13 : Option Addr} {sl13 : Array (Option Value)} {oc13 kV13 dc13 pm13 cd13 ct13 : Value}
    {f14 : Addr} {od14 an14 : Option Addr} {sl14 : Array (Option Value)} {oc14 kV14 dc14 pm14 cd14 ct14 : Value}
    {f15 : Addr} {od15 an15 : Option Addr} {sl15 : Array (Option Value)} {oc15 kV15 dc15 pm15 cd15 ct15 : Value}
    {f16 : Addr} {od16 an16 : Option Addr} {sl16 : Array (Option Value)} {oc16 kV16 dc16 pm16 cd16 ct16 : Value}
    {f17 : Addr} {od17 an17 : Option Addr} {sl17 : Array (Option Value)} {oc17 kV17 dc17 pm17 cd17 ct17 : Value}
    {f18 : Addr} {od18 an18 : Option Addr} {sl18 : Array (Option Value)} {oc18 kV18 dc18 pm18 ct18 : Value} {cd18 : Addr}
    {f19 : Addr} {od19 an19 : Option Addr} {sl19 : Array (Option Value)} {oc19 kV19 dc19 pm19 cd19 ct19 : Value}
    {f20 : Addr} {od20 an20 : Option Addr} {sl20 : Array (Option Value)} {oc20 kV20 dc20 pm20 cd20 ct20 : Value}
    {f21 : Addr} {od21 an21 : Option Addr} {sl21 : Array (Option Value)} {oc21 kV21 dc21 pm21 cd21 ct21 : Value}
    {f22 : Addr} {od22 an22 : Option Addr} {sl22 : Array (Option Value)} {oc22 kV22 dc22 pm22 cd22 ct22 : Value}
    {f23 : Addr} {od23 an23 : Option Addr} {sl23 : Array (Option Value)} {oc23 kV23 dc23 pm23 cd23 ct23 : Value}
    {f24 : Addr} {od24 an24 : Option Addr} {sl24 : Array (Option Value)} {oc24 kV24 dc24 pm24 cd24 ct24 : Value}
    {f25 : Addr} {od25 an25 : Option Addr} {sl25 : Array (Option Value)} {oc25 kV25 dc25 pm25 cd25 ct25 : Value}
    {f26 : Addr} {od26 an26 : Option Addr} {sl26 : Array (Option Value)} {oc26 kV26 dc26 pm26 cd26 ct26 : Value}
    {f27 : Addr} {od27 an27 : Option Addr} {sl27 : Array (Option Value)} {oc27 kV27 dc27 pm27 cd27 ct27 : Value}
    {f28 : Addr} {od28 an28 : Option Addr} {sl28 : Array (Option Value)} {oc28 kV28 dc28 pm28 cd28 ct28 : Value}
    {f29 : Addr} {od29 an29 : Option Addr} {sl29 : Array (Option Value)} {oc29 kV29 dc29 pm29 cd29 ct29 : Value}
    {f30 : Addr} {od30 an30 : Option Addr} {sl30 : Array (Option Value)} {oc30 kV30 dc30 pm30 cd30 ct30 : Value}
    {f31 : Addr} {od31 an31 : Option Addr} {sl31 : Array (Option Value)} {oc31 kV31 dc31 pm31 cd31 ct31 : Value}
    {f32 : Addr} {od32 an32 : Option Addr} {sl32 : Array (Option Value)} {oc32 kV32 dc32 pm32 cd32 ct32 : Value}
    {f33 : Addr} {od33 an33 : Option Addr} {sl33 : Array (Option Value)} {oc33 kV33 dc33 pm33 cd33 ct33 : Value}
    {f34 : Addr} {od34 an34 : Option Addr} {sl34 : Array (Option Value)} {oc34 kV34 dc34 pm34 cd34 ct34 : Value}
    {t_MOST_NAMED : Tok}
    {t_MOST_PEOPLE : Tok}
    {kt18 : Addr} (hT18 : h.get? kt18 = some { cls := .none, data := .fields #[] }) (nT18 : K.lookup kt18 = none) (hC18 : PySem.W.codeHdIn K cd18 kt18 = true)
    (a0 : PySem.W.nsIn K mainGlobals "is_integer" = some (some (.ref f0))) (l0 : K.lookup f0 = some ⟨oc0, od0, .func (PySem.W.fnOf "is_integer" "is_integer" (defArgs s_p_is_integer) (defBody s_p_is_integer) (defScope s_p_is_integer) .none kV0 dc0 pm0 an0 cd0 ct0), sl0⟩) (c0 : PySem.W.codeIn K cd0 "is_integer" = true) (k0 : PySem.W.keepIn K (.ref f0) = true)
    (a1 : PySem.W.nsIn K mainGlobals "is_between" = some (some (.ref f1))) (l1 : K.lookup f1 = some ⟨oc1, od1, .func (PySem.W.fnOf "is_between" "is_between" (defArgs s_p_is_between) (defBody s_p_is_between) (defScope s_p_is_between) .none kV1 dc1 pm1 an1 cd1 ct1), sl1⟩) (c1 : PySem.W.codeIn K cd1 "is_between" = true) (k1 : PySem.W.keepIn K (.ref f1) = true)
    (a2 : PySem.W.nsIn K mainGlobals "is_tuple_of" = some (some (.ref f2))) (l2 : K.lookup f2 = some ⟨oc2, od2, .func (PySem.W.fnOf "is_tuple_of" "is_tuple_of" (defArgs s_p_is_tuple_of) (defBody s_p_is_tuple_of) (defScope s_p_is_tuple_of) .none kV2 dc2 pm2 an2 cd2 ct2), sl2⟩) (c2 : PySem.W.codeIn K cd2 "is_tuple_of" = true) (k2 : PySem.W.keepIn K (.ref f2) = true)
    (a3 : PySem.W.nsIn K mainGlobals "is_ascending" = some (some (.ref f3))) (l3 : K.lookup f3 = some ⟨oc3, od3, .func (PySem.W.fnOf "is_ascending" "is_ascending" (defArgs s_p_is_ascending) (defBody s_p_is_ascending) (defScope s_p_is_ascending) .none kV3 dc3 pm3 an3 cd3 ct3), sl3⟩) (c3 : PySem.W.codeIn K cd3 "is_ascending" = true) (k3 : PySem.W.keepIn K (.ref f3) = true)
    (a4 : PySem.W.nsIn K mainGlobals "are_unlike_between" = some (some (.ref f4))) (l4 : K.lookup f4 = some ⟨oc4, od4, .func (PySem.W.fnOf "are_unlike_between" "are_unlike_between" (defArgs s_p_are_unlike_between) (defBody s_p_are_unlike_between) (defScope s_p_are_unlike_between) .none kV4 dc4 pm4 an4 cd4 ct4), sl4⟩) (c4 : PySem.W.codeIn K cd4 "are_unlike_between" = true) (k4 : PySem.W.keepIn K (.ref f4) = true)
    (a5 : PySem.W.nsIn K mainGlobals "is_pair_of" = some (some (.ref f5))) (l5 : K.lookup f5 = some ⟨oc5, od5, .func (PySem.W.fnOf "is_pair_of" "is_pair_of" (defArgs s_p_is_pair_of) (defBody s_p_is_pair_of) (defScope s_p_is_pair_of) .none kV5 dc5 pm5 an5 cd5 ct5), sl5⟩) (c5 : PySem.W.codeIn K cd5 "is_pair_of" = true) (k5 : PySem.W.keepIn K (.ref f5) = true)
    (a6 : PySem.W.nsIn K mainGlobals "are_ties_of" = some (some (.ref f6))) (l6 : K.lookup f6 = some ⟨oc6, od6, .func (PySem.W.fnOf "are_ties_of" "are_ties_of" (defArgs s_p_are_ties_of) (defBody s_p_are_ties_of) (defScope s_p_are_ties_of) .none kV6 dc6 pm6 an6 cd6 ct6), sl6⟩) (c6 : PySem.W.codeIn K cd6 "are_ties_of" = true) (k6 : PySem.W.keepIn K (.ref f6) = true)
    (a7 : PySem.W.nsIn K mainGlobals "is_company_of" = some (some (.ref f7))) (l7 : K.lookup f7 = some ⟨oc7, od7, .func (PySem.W.fnOf "is_company_of" "is_company_of" (defArgs s_p_is_company_of) (defBody s_p_is_company_of) (defScope s_p_is_company_of) .none kV7 dc7 pm7 an7 cd7 ct7), sl7⟩) (c7 : PySem.W.codeIn K cd7 "is_company_of" = true) (k7 : PySem.W.keepIn K (.ref f7) = true)
    (a8 : PySem.W.nsIn K mainGlobals "check_named" = some (some (.ref f8))) (l8 : K.lookup f8 = some ⟨oc8, od8, .func (PySem.W.fnOf "check_named" "check_named" (defArgs s_p_check_named) (defBody s_p_check_named) (defScope s_p_check_named) .none kV8 dc8 pm8 an8 cd8 ct8), sl8⟩) (c8 : PySem.W.codeIn K cd8 "check_named" = true) (k8 : PySem.W.keepIn K (.ref f8) = true)
    (a9 : PySem.W.nsIn K mainGlobals "check_company" = some (some (.ref f9))) (l9 : K.lookup f9 = some ⟨oc9, od9, .func (PySem.W.fnOf "check_company" "check_company" (defArgs s_p_check_company) (defBody s_p_check_company) (defScope s_p_check_company) .none kV9 dc9 pm9 an9 cd9 ct9), sl9⟩) (c9 : PySem.W.codeIn K cd9 "check_company" = true) (k9 : PySem.W.keepIn K (.ref f9) = true)
    (a10 : PySem.W.nsIn K mainGlobals "check_person" = some (some (.ref f10))) (l10 : K.lookup f10 = some ⟨oc10, od10, .func (PySem.W.fnOf "check_person" "check_person" (defArgs s_p_check_person) (defBody s_p_check_person) (defScope s_p_check_person) .none kV10 dc10 pm10 an10 cd10 ct10), sl10⟩) (c10 : PySem.W.codeIn K cd10 "check_person" = true) (k10 : PySem.W.keepIn K (.ref f10) = true)
    (a11 : PySem.W.nsIn K mainGlobals "check_other" = some (some (.ref f11))) (l11 : K.lookup f11 = some ⟨oc11, od11, .func (PySem.W.fnOf "check_other" "check_other" (defArgs s_p_check_other) (defBody s_p_check_other) (defScope s_p_check_other) .none kV11 dc11 pm11 an11 cd11 ct11), sl11⟩) (c11 : PySem.W.codeIn K cd11 "check_other" = true) (k11 : PySem.W.keepIn K (.ref f11) = true)
    (a12 : PySem.W.nsIn K mainGlobals "check_besides" = some (some (.ref f12))) (l12 : K.lookup f12 = some ⟨oc12, od12, .func (PySem.W.fnOf "check_besides" "check_besides" (defArgs s_p_check_besides) (defBody s_p_check_besides) (defScope s_p_check_besides) .none kV12 dc12 pm12 an12 cd12 ct12), sl12⟩) (c12 : PySem.W.codeIn K cd12 "check_besides" = true) (k12 : PySem.W.keepIn K (.ref f12) = true)
    (a13 : PySem.W.nsIn K mainGlobals "pairs_of" = some (some (.ref f13))) (l13 : K.lookup f13 = some ⟨oc13, od13, .func (PySem.W.fnOf "pairs_of" "pairs_of" (defArgs s_p_pairs_of) (defBody s_p_pairs_of) (defScope s_p_pairs_of) .none kV13 dc13 pm13 an13 cd13 ct13), sl13⟩) (c13 : PySem.W.codeIn K cd13 "pairs_of" = true) (k13 : PySem.W.keepIn K (.ref f13) = true)
    (a14 : PySem.W.nsIn K mainGlobals "pair_of" = some (some (.ref f14))) (l14 : K.lookup f14 = some ⟨oc14, od14, .func (PySem.W.fnOf "pair_of" "pair_of" (defArgs s_p_pair_of) (defBody s_p_pair_of) (defScope s_p_pair_of) .none kV14 dc14 pm14 an14 cd14 ct14), sl14⟩) (c14 : PySem.W.codeIn K cd14 "pair_of" = true) (k14 : PySem.W.keepIn K (.ref f14) = true)
    (a15 : PySem.W.nsIn K mainGlobals "part_for" = some (some (.ref f15))) (l15 : K.lookup f15 = some ⟨oc15, od15, .func (PySem.W.fnOf "part_for" "part_for" (defArgs s_p_part_for) (defBody s_p_part_for) (defScope s_p_part_for) .none kV15 dc15 pm15 an15 cd15 ct15), sl15⟩) (c15 : PySem.W.codeIn K cd15 "part_for" = true) (k15 : PySem.W.keepIn K (.ref f15) = true)
    (a16 : PySem.W.nsIn K mainGlobals "is_company" = some (some (.ref f16))) (l16 : K.lookup f16 = some ⟨oc16, od16, .func (PySem.W.fnOf "is_company" "is_company" (defArgs s_p_is_company) (defBody s_p_is_company) (defScope s_p_is_company) .none kV16 dc16 pm16 an16 cd16 ct16), sl16⟩) (c16 : PySem.W.codeIn K cd16 "is_company" = true) (k16 : PySem.W.keepIn K (.ref f16) = true)
    (a17 : PySem.W.nsIn K mainGlobals "do_know" = some (some (.ref f17))) (l17 : K.lookup f17 = some ⟨oc17, od17, .func (PySem.W.fnOf "do_know" "do_know" (defArgs s_p_do_know) (defBody s_p_do_know) (defScope s_p_do_know) .none kV17 dc17 pm17 an17 cd17 ct17), sl17⟩) (c17 : PySem.W.codeIn K cd17 "do_know" = true) (k17 : PySem.W.keepIn K (.ref f17) = true)
    (a18 : PySem.W.nsIn K mainGlobals "known_to" = some (some (.ref f18))) (l18 : K.lookup f18 = some ⟨oc18, od18, .func (PySem.W.fnOf "known_to" "known_to" (defArgs s_p_known_to) (defBody s_p_known_to) (defScope s_p_known_to) .none kV18 dc18 pm18 an18 (.ref cd18) ct18), sl18⟩) (c18 : PySem.W.codeIn K (.ref cd18) "known_to" = true) (k18 : PySem.W.keepIn K (.ref f18) = true)
    (a19 : PySem.W.nsIn K mainGlobals "part_of" = some (some (.ref f19))) (l19 : K.lookup f19 = some ⟨oc19, od19, .func (PySem.W.fnOf "part_of" "part_of" (defArgs s_p_part_of) (defBody s_p_part_of) (defScope s_p_part_of) .none kV19 dc19 pm19 an19 cd19 ct19), sl19⟩) (c19 : PySem.W.codeIn K cd19 "part_of" = true) (k19 : PySem.W.keepIn K (.ref f19) = true)
    (a20 : PySem.W.nsIn K mainGlobals "_law_cup" = some (some (.ref f20))) (l20 : K.lookup f20 = some ⟨oc20, od20, .func (PySem.W.fnOf "_law_cup" "_law_cup" (defArgs s_Lcup) (defBody s_Lcup) (defScope s_Lcup) .none kV20 dc20 pm20 an20 cd20 ct20), sl20⟩) (c20 : PySem.W.codeIn K cd20 "_law_cup" = true) (k20 : PySem.W.keepIn K (.ref f20) = true)
    (a21 : PySem.W.nsIn K mainGlobals "_law_roll" = some (some (.ref f21))) (l21 : K.lookup f21 = some ⟨oc21, od21, .func (PySem.W.fnOf "_law_roll" "_law_roll" (defArgs s_Lroll) (defBody s_Lroll) (defScope s_Lroll) .none kV21 dc21 pm21 an21 cd21 ct21), sl21⟩) (c21 : PySem.W.codeIn K cd21 "_law_roll" = true) (k21 : PySem.W.keepIn K (.ref f21) = true)
    (a22 : PySem.W.nsIn K mainGlobals "_law_some" = some (some (.ref f22))) (l22 : K.lookup f22 = some ⟨oc22, od22, .func (PySem.W.fnOf "_law_some" "_law_some" (defArgs s_Lsome) (defBody s_Lsome) (defScope s_Lsome) .none kV22 dc22 pm22 an22 cd22 ct22), sl22⟩) (c22 : PySem.W.codeIn K cd22 "_law_some" = true) (k22 : PySem.W.keepIn K (.ref f22) = true)
    (a23 : PySem.W.nsIn K mainGlobals "_law_are_whole" = some (some (.ref f23))) (l23 : K.lookup f23 = some ⟨oc23, od23, .func (PySem.W.fnOf "_law_are_whole" "_law_are_whole" (defArgs s_Lare_whole) (defBody s_Lare_whole) (defScope s_Lare_whole) .none kV23 dc23 pm23 an23 cd23 ct23), sl23⟩) (c23 : PySem.W.codeIn K cd23 "_law_are_whole" = true) (k23 : PySem.W.keepIn K (.ref f23) = true)
    (a24 : PySem.W.nsIn K mainGlobals "_law_two" = some (some (.ref f24))) (l24 : K.lookup f24 = some ⟨oc24, od24, .func (PySem.W.fnOf "_law_two" "_law_two" (defArgs s_Ltwo) (defBody s_Ltwo) (defScope s_Ltwo) .none kV24 dc24 pm24 an24 cd24 ct24), sl24⟩) (c24 : PySem.W.codeIn K cd24 "_law_two" = true) (k24 : PySem.W.keepIn K (.ref f24) = true)
    (a25 : PySem.W.nsIn K mainGlobals "_law_knows" = some (some (.ref f25))) (l25 : K.lookup f25 = some ⟨oc25, od25, .func (PySem.W.fnOf "_law_knows" "_law_knows" (defArgs s_Lknows) (defBody s_Lknows) (defScope s_Lknows) .none kV25 dc25 pm25 an25 cd25 ct25), sl25⟩) (c25 : PySem.W.codeIn K cd25 "_law_knows" = true) (k25 : PySem.W.keepIn K (.ref f25) = true)
    (a26 : PySem.W.nsIn K mainGlobals "_law_some_besides" = some (some (.ref f26))) (l26 : K.lookup f26 = some ⟨oc26, od26, .func (PySem.W.fnOf "_law_some_besides" "_law_some_besides" (defArgs s_Lsome_besides) (defBody s_Lsome_besides) (defScope s_Lsome_besides) .none kV26 dc26 pm26 an26 cd26 ct26), sl26⟩) (c26 : PySem.W.codeIn K cd26 "_law_some_besides" = true) (k26 : PySem.W.keepIn K (.ref f26) = true)
    (a27 : PySem.W.nsIn K mainGlobals "_law_pairs" = some (some (.ref f27))) (l27 : K.lookup f27 = some ⟨oc27, od27, .func (PySem.W.fnOf "_law_pairs" "_law_pairs" (defArgs s_Lpairs) (defBody s_Lpairs) (defScope s_Lpairs) .none kV27 dc27 pm27 an27 cd27 ct27), sl27⟩) (c27 : PySem.W.codeIn K cd27 "_law_pairs" = true) (k27 : PySem.W.keepIn K (.ref f27) = true)
    (a28 : PySem.W.nsIn K mainGlobals "_law_part" = some (some (.ref f28))) (l28 : K.lookup f28 = some ⟨oc28, od28, .func (PySem.W.fnOf "_law_part" "_law_part" (defArgs s_Lpart) (defBody s_Lpart) (defScope s_Lpart) .none kV28 dc28 pm28 an28 cd28 ct28), sl28⟩) (c28 : PySem.W.codeIn K cd28 "_law_part" = true) (k28 : PySem.W.keepIn K (.ref f28) = true)
    (a29 : PySem.W.nsIn K mainGlobals "_law_named" = some (some (.ref f29))) (l29 : K.lookup f29 = some ⟨oc29, od29, .func (PySem.W.fnOf "_law_named" "_law_named" (defArgs s_Lnamed) (defBody s_Lnamed) (defScope s_Lnamed) .none kV29 dc29 pm29 an29 cd29 ct29), sl29⟩) (c29 : PySem.W.codeIn K cd29 "_law_named" = true) (k29 : PySem.W.keepIn K (.ref f29) = true)
    (a30 : PySem.W.nsIn K mainGlobals "_law_company" = some (some (.ref f30))) (l30 : K.lookup f30 = some ⟨oc30, od30, .func (PySem.W.fnOf "_law_company" "_law_company" (defArgs s_Lcompany) (defBody s_Lcompany) (defScope s_Lcompany) .none kV30 dc30 pm30 an30 cd30 ct30), sl30⟩) (c30 : PySem.W.codeIn K cd30 "_law_company" = true) (k30 : PySem.W.keepIn K (.ref f30) = true)
    (a31 : PySem.W.nsIn K mainGlobals "_law_judged" = some (some (.ref f31))) (l31 : K.lookup f31 = some ⟨oc31, od31, .func (PySem.W.fnOf "_law_judged" "_law_judged" (defArgs s_Ljudged) (defBody s_Ljudged) (defScope s_Ljudged) .none kV31 dc31 pm31 an31 cd31 ct31), sl31⟩) (c31 : PySem.W.codeIn K cd31 "_law_judged" = true) (k31 : PySem.W.keepIn K (.ref f31) = true)
    (a32 : PySem.W.nsIn K mainGlobals "_law_bent" = some (some (.ref f32))) (l32 : K.lookup f32 = some ⟨oc32, od32, .func (PySem.W.fnOf "_law_bent" "_law_bent" (defArgs s_Lbent) (defBody s_Lbent) (defScope s_Lbent) .none kV32 dc32 pm32 an32 cd32 ct32), sl32⟩) (c32 : PySem.W.codeIn K cd32 "_law_bent" = true) (k32 : PySem.W.keepIn K (.ref f32) = true)
    (a33 : PySem.W.nsIn K mainGlobals "_law_right" = some (some (.ref f33))) (l33 : K.lookup f33 = some ⟨oc33, od33, .func (PySem.W.fnOf "_law_right" "_law_right" (defArgs s_Lright) (defBody s_Lright) (defScope s_Lright) .none kV33 dc33 pm33 an33 cd33 ct33), sl33⟩) (c33 : PySem.W.codeIn K cd33 "_law_right" = true) (k33 : PySem.W.keepIn K (.ref f33) = true)
    (a34 : PySem.W.nsIn K mainGlobals "law" = some (some (.ref f34))) (l34 : K.lookup f34 = some ⟨oc34, od34, .func (PySem.W.fnOf "law" "law" (defArgs s_Law) (defBody s_Law) (defScope s_Law) .none kV34 dc34 pm34 an34 cd34 ct34), sl34⟩) (c34 : PySem.W.codeIn K cd34 "law" = true) (k34 : PySem.W.keepIn K (.ref f34) = true)
    (z_abs : PySem.W.nsIn K mainGlobals "abs" = some none)
    (z_all : PySem.W.nsIn K mainGlobals "all" = some none)
    (z_bool : PySem.W.nsIn K mainGlobals "bool" = some none)
    (z_int : PySem.W.nsIn K mainGlobals "int" = some none)
    (z_isinstance : PySem.W.nsIn K mainGlobals "isinstance" = some none)
    (z_len : PySem.W.nsIn K mainGlobals "len" = some none)
    (z_list : PySem.W.nsIn K mainGlobals "list" = some none)
    (z_range : PySem.W.nsIn K mainGlobals "range" = some none)
    (z_set : PySem.W.nsIn K mainGlobals "set" = some none)
    (z_sorted : PySem.W.nsIn K mainGlobals "sorted" = some none)
    (z_tuple : PySem.W.nsIn K mainGlobals "tuple" = some none)
    (m_MOST_NAMED : PySem.W.nsIn K mainGlobals "MOST_NAMED" = some (some (.int 3 t_MOST_NAMED)))
    (m_MOST_PEOPLE : PySem.W.nsIn K mainGlobals "MOST_PEOPLE" = some (some (.int 9 t_MOST_PEOPLE))) :
    LamX.LawAtS l w K CX0 42 63 "_law_script" mg fa h := by
  have e := hfa.symm.trans (PySem.W.mg_of X G a34)
  cases e
  have F0 := fun_mk (st := s_p_is_integer) l0 c0 k0
  have F1 := fun_mk (st := s_p_is_between) l1 c1 k1
  have F2 := fun_mk (st := s_p_is_tuple_of) l2 c2 k2
  have F3 := fun_mk (st := s_p_is_ascending) l3 c3 k3
  have F4 := fun_mk (st := s_p_are_unlike_between) l4 c4 k4
  have F5 := fun_mk (st := s_p_is_pair_of) l5 c5 k5
  have F6 := fun_mk (st := s_p_are_ties_of) l6 c6 k6
  have F7 := fun_mk (st := s_p_is_company_of) l7 c7 k7
  have F8 := fun_mk (st := s_p_check_named) l8 c8 k8
  have F9 := fun_mk (st := s_p_check_company) l9 c9 k9
  have F10 := fun_mk (st := s_p_check_person) l10 c10 k10
  have F11 := fun_mk (st := s_p_check_other) l11 c11 k11
  have F12 := fun_mk (st := s_p_check_besides) l12 c12 k12
  have F13 := fun_mk (st := s_p_pairs_of) l13 c13 k13
  have F14 := fun_mk (st := s_p_pair_of) l14 c14 k14
  have F15 := fun_mk (st := s_p_part_for) l15 c15 k15
  have F16 := fun_mk (st := s_p_is_company) l16 c16 k16
  have F17 := fun_mk (st := s_p_do_know) l17 c17 k17
  have F18 := fun_mk (st := s_p_known_to) l18 c18 k18
  have F19 := fun_mk (st := s_p_part_of) l19 c19 k19
  have F20 := fun_mk (st := s_Lcup) l20 c20 k20
  have F21 := fun_mk (st := s_Lroll) l21 c21 k21
  have F22 := fun_mk (st := s_Lsome) l22 c22 k22
  have F23 := fun_mk (st := s_Lare_whole) l23 c23 k23
  have F24 := fun_mk (st := s_Ltwo) l24 c24 k24
  have F25 := fun_mk (st := s_Lknows) l25 c25 k25
  have F26 := fun_mk (st := s_Lsome_besides) l26 c26 k26
  have F27 := fun_mk (st := s_Lpairs) l27 c27 k27
  have F28 := fun_mk (st := s_Lpart) l28 c28 k28
  have F29 := fun_mk (st := s_Lnamed) l29 c29 k29
  have F30 := fun_mk (st := s_Lcompany) l30 c30 k30
  have F31 := fun_mk (st := s_Ljudged) l31 c31 k31
  have F32 := fun_mk (st := s_Lbent) l32 c32 k32
  have F33 := fun_mk (st := s_Lright) l33 c33 k33
  have F34 := fun_mk (st := s_Law) l34 c34 k34
  let T : Tx K mg := {
    a_p_is_integer := f0,
    d_p_is_integer := _,
    F_p_is_integer := F0,
    g_p_is_integer := PySem.W.mg_of X G a0,
    b_p_is_integer := F0.binds (fun _ _ _ _ _ _ us hl => match us, hl with | [_], _ => rfl),
    a_p_is_between := f1,
    d_p_is_between := _,
    F_p_is_between := F1,
    g_p_is_between := PySem.W.mg_of X G a1,
    b_p_is_between := F1.binds (fun _ _ _ _ _ _ us hl => match us, hl with | [_, _, _], _ => rfl),
    a_p_is_tuple_of := f2,
    d_p_is_tuple_of := _,
    F_p_is_tuple_of := F2,
    g_p_is_tuple_of := PySem.W.mg_of X G a2,
    b_p_is_tuple_of := F2.binds (fun _ _ _ _ _ _ us hl => match us, hl with | [_, _], _ => rfl),
    a_p_is_ascending := f3,
    d_p_is_ascending := _,
    F_p_is_ascending := F3,
    g_p_is_ascending := PySem.W.mg_of X G a3,
    b_p_is_ascending := F3.binds (fun _ _ _ _ _ _ us hl => match us, hl with | [_], _ => rfl),
    a_p_are_unlike_between := f4,
    d_p_are_unlike_between := _,
    F_p_are_unlike_between := F4,
    g_p_are_unlike_between := PySem.W.mg_of X G a4,
    b_p_are_unlike_between := F4.binds (fun _ _ _ _ _ _ us hl => match us, hl with | [_, _, _], _ => rfl),
    a_p_is_pair_of := f5,
    d_p_is_pair_of := _,
    F_p_is_pair_of := F5,
    g_p_is_pair_of := PySem.W.mg_of X G a5,
    b_p_is_pair_of := F5.binds (fun _ _ _ _ _ _ us hl => match us, hl with | [_, _], _ => rfl),
    a_p_are_ties_of := f6,
    d_p_are_ties_of := _,
    F_p_are_ties_of := F6,
    g_p_are_ties_of := PySem.W.mg_of X G a6,
    b_p_are_ties_of := F6.binds (fun _ _ _ _ _ _ us hl => match us, hl with | [_, _], _ => rfl),
    a_p_is_company_of := f7,
    d_p_is_company_of := _,
    F_p_is_company_of := F7,
    g_p_is_company_of := PySem.W.mg_of X G a7,
    b_p_is_company_of := F7.binds (fun _ _ _ _ _ _ us hl => match us, hl with | [_, _], _ => rfl),
    a_p_check_named := f8,
    d_p_check_named := _,
    F_p_check_named := F8,
    g_p_check_named := PySem.W.mg_of X G a8,
    b_p_check_named := F8.binds (fun _ _ _ _ _ _ us hl => match us, hl with | [_], _ => rfl),
    a_p_check_company := f9,
    d_p_check_company := _,
    F_p_check_company := F9,
    g_p_check_company := PySem.W.mg_of X G a9,
    b_p_check_company := F9.binds (fun _ _ _ _ _ _ us hl => match us, hl with | [_, _], _ => rfl),
    a_p_check_person := f10,
    d_p_check_person := _,
    F_p_check_person := F10,
    g_p_check_person := PySem.W.mg_of X G a10,
    b_p_check_person := F10.binds (fun _ _ _ _ _ _ us hl => match us, hl with | [_, _], _ => rfl),
    a_p_check_other := f11,
    d_p_check_other := _,
    F_p_check_other := F11,
    g_p_check_other := PySem.W.mg_of X G a11,
    b_p_check_other := F11.binds (fun _ _ _ _ _ _ us hl => match us, hl with | [_, _, _], _ => rfl),
    a_p_check_besides := f12,
    d_p_check_besides := _,
    F_p_check_besides := F12,
    g_p_check_besides := PySem.W.mg_of X G a12,
    b_p_check_besides := F12.binds (fun _ _ _ _ _ _ us hl => match us, hl with | [_, _, _], _ => rfl),
    a_p_pairs_of := f13,
    d_p_pairs_of := _,
    F_p_pairs_of := F13,
    g_p_pairs_of := PySem.W.mg_of X G a13,
    b_p_pairs_of := F13.binds (fun _ _ _ _ _ _ us hl => match us, hl with | [_], _ => rfl),
    a_p_pair_of := f14,
    d_p_pair_of := _,
    F_p_pair_of := F14,
    g_p_pair_of := PySem.W.mg_of X G a14,
    b_p_pair_of := F14.binds (fun _ _ _ _ _ _ us hl => match us, hl with | [_, _], _ => rfl),
    a_p_part_for := f15,
    d_p_part_for := _,
    F_p_part_for := F15,
    g_p_part_for := PySem.W.mg_of X G a15,
    b_p_part_for := F15.binds (fun _ _ _ _ _ _ us hl => match us, hl with | [_, _, _], _ => rfl),
    a_p_is_company := f16,
    d_p_is_company := _,
    F_p_is_company := F16,
    g_p_is_company := PySem.W.mg_of X G a16,
    b_p_is_company := F16.binds (fun _ _ _ _ _ _ us hl => match us, hl with | [_, _], _ => rfl),
    a_p_do_know := f17,
    d_p_do_know := _,
    F_p_do_know := F17,
    g_p_do_know := PySem.W.mg_of X G a17,
    b_p_do_know := F17.binds (fun _ _ _ _ _ _ us hl => match us, hl with | [_, _, _, _], _ => rfl),
    a_p_known_to := f18,
    d_p_known_to := _,
    F_p_known_to := F18,
    g_p_known_to := PySem.W.mg_of X G a18,
    kc_p_known_to := cd18,
    kt_p_known_to := kt18,
    h_p_known_to := ⟨_, _, _, _, _, _, _, _, rfl, l18, c18⟩,
    b_p_known_to := F18.binds (fun _ _ _ _ _ _ us hl => match us, hl with | [_, _, _], _ => rfl),
    a_p_part_of := f19,
    d_p_part_of := _,
    F_p_part_of := F19,
    g_p_part_of := PySem.W.mg_of X G a19,
    b_p_part_of := F19.binds (fun _ _ _ _ _ _ us hl => match us, hl with | [_, _, _], _ => rfl),
    a_Lcup := f20,
    d_Lcup := _,
    F_Lcup := F20,
    g_Lcup := PySem.W.mg_of X G a20,
    b_Lcup := F20.binds (fun _ _ _ _ _ _ us hl => match us, hl with | [_], _ => rfl),
    a_Lroll := f21,
    d_Lroll := _,
    F_Lroll := F21,
    g_Lroll := PySem.W.mg_of X G a21,
    b_Lroll := F21.binds (fun _ _ _ _ _ _ us hl => match us, hl with | [_, _], _ => rfl),
    a_Lsome := f22,
    d_Lsome := _,
    F_Lsome := F22,
    g_Lsome := PySem.W.mg_of X G a22,
    b_Lsome := F22.binds (fun _ _ _ _ _ _ us hl => match us, hl with | [_, _], _ => rfl),
    a_Lare_whole := f23,
    d_Lare_whole := _,
    F_Lare_whole := F23,
    g_Lare_whole := PySem.W.mg_of X G a23,
    b_Lare_whole := F23.binds (fun _ _ _ _ _ _ us hl => match us, hl with | [_, _, _], _ => rfl),
    a_Ltwo := f24,
    d_Ltwo := _,
    F_Ltwo := F24,
    g_Ltwo := PySem.W.mg_of X G a24,
    b_Ltwo := F24.binds (fun _ _ _ _ _ _ us hl => match us, hl with | [_, _], _ => rfl),
    a_Lknows := f25,
    d_Lknows := _,
    F_Lknows := F25,
    g_Lknows := PySem.W.mg_of X G a25,
    b_Lknows := F25.binds (fun _ _ _ _ _ _ us hl => match us, hl with | [_, _, _], _ => rfl),
    a_Lsome_besides := f26,
    d_Lsome_besides := _,
    F_Lsome_besides := F26,
    g_Lsome_besides := PySem.W.mg_of X G a26,
    b_Lsome_besides := F26.binds (fun _ _ _ _ _ _ us hl => match us, hl with | [_, _, _], _ => rfl),
    a_Lpairs := f27,
    d_Lpairs := _,
    F_Lpairs := F27,
    g_Lpairs := PySem.W.mg_of X G a27,
    b_Lpairs := F27.binds (fun _ _ _ _ _ _ us hl => match us, hl with | [_], _ => rfl),
    a_Lpart := f28,
    d_Lpart := _,
    F_Lpart := F28,
    g_Lpart := PySem.W.mg_of X G a28,
    b_Lpart := F28.binds (fun _ _ _ _ _ _ us hl => match us, hl with | [_, _, _], _ => rfl),
    a_Lnamed := f29,
    d_Lnamed := _,
    F_Lnamed := F29,
    g_Lnamed := PySem.W.mg_of X G a29,
    b_Lnamed := F29.binds (fun _ _ _ _ _ _ us hl => match us, hl with | [_], _ => rfl),
    a_Lcompany := f30,
    d_Lcompany := _,
    F_Lcompany := F30,
    g_Lcompany := PySem.W.mg_of X G a30,
    b_Lcompany := F30.binds (fun _ _ _ _ _ _ us hl => match us, hl with | [_, _, _, _], _ => rfl),
    a_Ljudged := f31,
    d_Ljudged := _,
    F_Ljudged := F31,
    g_Ljudged := PySem.W.mg_of X G a31,
    b_Ljudged := F31.binds (fun _ _ _ _ _ _ us hl => match us, hl with | [_, _], _ => rfl),
    a_Lbent := f32,
    d_Lbent := _,
    F_Lbent := F32,
    g_Lbent := PySem.W.mg_of X G a32,
    b_Lbent := F32.binds (fun _ _ _ _ _ _ us hl => match us, hl with | [_, _], _ => rfl),
    a_Lright := f33,
    d_Lright := _,
    F_Lright := F33,
    g_Lright := PySem.W.mg_of X G a33,
    b_Lright := F33.binds (fun _ _ _ _ _ _ us hl => match us, hl with | [_, _, _], _ => rfl),
    a_Law := fa,
    d_Law := _,
    F_Law := F34,
    g_Law := PySem.W.mg_of X G a34,
    b_Law := F34.binds (fun _ _ _ _ _ _ us hl => match us, hl with | [_], _ => rfl),
    z_abs := PySem.W.mg_none_of X G z_abs,
    z_all := PySem.W.mg_none_of X G z_all,
    z_bool := PySem.W.mg_none_of X G z_bool,
    z_int := PySem.W.mg_none_of X G z_int,
    z_isinstance := PySem.W.mg_none_of X G z_isinstance,
    z_len := PySem.W.mg_none_of X G z_len,
    z_list := PySem.W.mg_none_of X G z_list,
    z_range := PySem.W.mg_none_of X G z_range,
    z_set := PySem.W.mg_none_of X G z_set,
    z_sorted := PySem.W.mg_none_of X G z_sorted,
    z_tuple := PySem.W.mg_none_of X G z_tuple,
    t_MOST_NAMED := t_MOST_NAMED,
    c_MOST_NAMED := PySem.W.mg_of X G m_MOST_NAMED,
    t_MOST_PEOPLE := t_MOST_PEOPLE,
    c_MOST_PEOPLE := PySem.W.mg_of X G m_MOST_PEOPLE }
  have one : ∀ {P : Addr × Addr → Prop}, P (cd18, kt18) → ∀ p ∈ [(cd18, kt18)], P p := fun h p hp => List.mem_singleton.mp hp ▸ h
  refine ⟨T.d_Law, [(cd18, kt18)], spM [kt18] K 1 (gLaw 41), one hT18, one nT18, one (PySem.W.codeHd_of_K X hC18), fun s v => .of_eq rfl, fun H a ns hl _ hH hS => sp_end H a ns hl (fun k hk => ?_) hS, fun base _ _ hB => law_ok T ⟨?_, List.mem_singleton.mpr rfl⟩ 40⟩
  · rw [List.mem_singleton.mp hk]
    exact hH (cd18, kt18) (List.mem_singleton.mpr rfl)
  · have t := hB (cd18, kt18) (List.mem_singleton.mpr rfl)
    exact ⟨t.code, t.bm, t.gP⟩
end MT

open PySem PySem.W PyProof.Rows
local macro_rules | `(tactic| o_head ($_:ident $k $a $e)) => `(tactic| o_head (PySem.W.kmHook $k $a $e [193]))
set_option maxHeartbeats 0 in
theorem PySem.Challenge.cw_twobesides_k06_whole_companies_holds : PySem.Challenge.rw_twobesides_k06_whole_companies.Holds := by
  w_on; o_law; k_head; (case hw => w_witness2)
  k_fill
  refine LamX.walk_ofTs (l := PySem.Challenge.rw_twobesides_k06_whole_companies) (n := 63) (k := 42) (x := "_law_script") (CX := fun _ => L2.CX0) rfl (by decide) rfl ⟨rfl, by decide, by decide⟩ (fun w h Y => PySem.W.km_in_of Y) ?F (fun _ _ _ _ _ h => h)
  case F =>
    intro w mg fa h Y KX G hmg
    refine' MT.all_mk (kt18 := 193) KX G hmg (PySem.W.km_tabs_of Y 193 (List.mem_singleton.mpr rfl)) ?nT ?hC ?a0 ?l0 ?c0 ?k0 ?a1 ?l1 ?c1 ?k1 ?a2 ?l2 ?c2 ?k2 ?a3 ?l3 ?c3 ?k3 ?a4 ?l4 ?c4 ?k4 ?a5 ?l5 ?c5 ?k5 ?a6 ?l6 ?c6 ?k6 ?a7 ?l7 ?c7 ?k7 ?a8 ?l8 ?c8 ?k8 ?a9 ?l9 ?c9 ?k9 ?a10 ?l10 ?c10 ?k10 ?a11 ?l11 ?c11 ?k11 ?a12 ?l12 ?c12 ?k12 ?a13 ?l13 ?c13 ?k13 ?a14 ?l14 ?c14 ?k14 ?a15 ?l15 ?c15 ?k15 ?a16 ?l16 ?c16 ?k16 ?a17 ?l17 ?c17 ?k17 ?a18 ?l18 ?c18 ?k18 ?a19 ?l19 ?c19 ?k19 ?a20 ?l20 ?c20 ?k20 ?a21 ?l21 ?c21 ?k21 ?a22 ?l22 ?c22 ?k22 ?a23 ?l23 ?c23 ?k23 ?a24 ?l24 ?c24 ?k24 ?a25 ?l25 ?c25 ?k25 ?a26 ?l26 ?c26 ?k26 ?a27 ?l27 ?c27 ?k27 ?a28 ?l28 ?c28 ?k28 ?a29 ?l29 ?c29 ?k29 ?a30 ?l30 ?c30 ?k30 ?a31 ?l31 ?c31 ?k31 ?a32 ?l32 ?c32 ?k32 ?a33 ?l33 ?c33 ?k33 ?a34 ?l34 ?c34 ?k34 ?z_abs ?z_all ?z_bool ?z_int ?z_isinstance ?z_len ?z_list ?z_range ?z_set ?z_sorted ?z_tuple ?m_MOST_NAMED ?m_MOST_PEOPLE
    (case nT => kernel_rfl); (case a0 => k_is); (case l0 => k_is); (case c0 => k_is); (case k0 => k_is); (case a1 => k_is); (case l1 => k_is); (case c1 => k_is); (case k1 => k_is); (case a2 => k_is); (case l2 => k_is); (case c2 => k_is); (case k2 => k_is); (case a3 => k_is); (case l3 => k_is); (case c3 => k_is); (case k3 => k_is); (case a4 => k_is); (case l4 => k_is); (case c4 => k_is); (case k4 => k_is); (case a5 => k_is); (case l5 => k_is); (case c5 => k_is); (case k5 => k_is); (case a6 => k_is); (case l6 => k_is); (case c6 => k_is); (case k6 => k_is); (case a7 => k_is); (case l7 => k_is); (case c7 => k_is); (case k7 => k_is); (case a8 => k_is); (case l8 => k_is); (case c8 => k_is); (case k8 => k_is); (case a9 => k_is); (case l9 => k_is); (case c9 => k_is); (case k9 => k_is); (case a10 => k_is); (case l10 => k_is); (case c10 => k_is); (case k10 => k_is); (case a11 => k_is); (case l11 => k_is); (case c11 => k_is); (case k11 => k_is); (case a12 => k_is); (case l12 => k_is); (case c12 => k_is); (case k12 => k_is); (case a13 => k_is); (case l13 => k_is); (case c13 => k_is); (case k13 => k_is); (case a14 => k_is); (case l14 => k_is); (case c14 => k_is); (case k14 => k_is); (case a15 => k_is); (case l15 => k_is); (case c15 => k_is); (case k15 => k_is); (case a16 => k_is); (case l16 => k_is); (case c16 => k_is); (case k16 => k_is); (case a17 => k_is); (case l17 => k_is); (case c17 => k_is); (case k17 => k_is); (case a18 => k_is); (case l18 => k_is); (case c18 => k_is); (case k18 => k_is); (case a19 => k_is); (case l19 => k_is); (case c19 => k_is); (case k19 => k_is); (case a20 => k_is); (case l20 => k_is); (case c20 => k_is); (case k20 => k_is); (case a21 => k_is); (case l21 => k_is); (case c21 => k_is); (case k21 => k_is); (case a22 => k_is); (case l22 => k_is); (case c22 => k_is); (case k22 => k_is); (case a23 => k_is); (case l23 => k_is); (case c23 => k_is); (case k23 => k_is); (case a24 => k_is); (case l24 => k_is); (case c24 => k_is); (case k24 => k_is); (case a25 => k_is); (case l25 => k_is); (case c25 => k_is); (case k25 => k_is); (case a26 => k_is); (case l26 => k_is); (case c26 => k_is); (case k26 => k_is); (case a27 => k_is); (case l27 => k_is); (case c27 => k_is); (case k27 => k_is); (case a28 => k_is); (case l28 => k_is); (case c28 => k_is); (case k28 => k_is); (case a29 => k_is); (case l29 => k_is); (case c29 => k_is); (case k29 => k_is); (case a30 => k_is); (case l30 => k_is); (case c30 => k_is); (case k30 => k_is); (case a31 => k_is); (case l31 => k_is); (case c31 => k_is); (case k31 => k_is); (case a32 => k_is); (case l32 => k_is); (case c32 => k_is); (case k32 => k_is); (case a33 => k_is); (case l33 => k_is); (case c33 => k_is); (case k33 => k_is); (case a34 => k_is); (case l34 => k_is); (case c34 => k_is); (case k34 => k_is); (case z_abs => k_is); (case z_all => k_is); (case z_bool => k_is); (case z_int => k_is); (case z_isinstance => k_is); (case z_len => k_is); (case z_list => k_is); (case z_range => k_is); (case z_set => k_is); (case z_sorted => k_is); (case z_tuple => k_is); (case m_MOST_NAMED => k_is); (case m_MOST_PEOPLE => k_is); (case hC => kernel_rfl)

