import PyProof.Rows.All
import Wide.All
import OpenK.AllK
import Wide.FinOn
import HandS.ForMost
import HandS.IsInst
import HandS.TupAny
import HandS.TupMul
import HandS.Style
import HandS.Deep
import HandS.Wide
import HandS.Dict
import HandS.AnyAll
import KE.DataEq
import HandS.Flt
import HandS.TupLe
import HandS.DictComp
import HandS.Small
import HandS.Rev
import PyProof.TupleOfGen
import PyProof.GenCompD
import HandS.Conv
import HandS.TupSets
import HandS.SetFor
import HandS.Sort
import HandS.Nested
import HandS.Zip
import HandS.Walk
import KE.GoesMore
import KE.GoesZip
import KE.GoesEnum
import PyProof.Rows.TupDisplay
import PyProof.Rows.CountFlat
import KE.KDictWalk
import HandS.EndTab
import KE.KNestM
import PySem.Challenge.RW_twobesides_k08_whole_deeds_pair_by_pair
set_option Elab.async false
set_option linter.all false
set_option maxRecDepth 100000
set_option maxHeartbeats 4000000
/-! ML1: a mirror of a def's body by plain functions over data, and what it says of the heap. -/
namespace NL
open PySem PySem.Spec PyProof.Rows L2

/-- data: what a value says, with the tuples and lists told through; mu n: the n-th list that may change; fz: a list that nobody may change; dk, dt: a dict (keys ints and texts; tuples of them); ins: an instance; ct: a tuple of the written part -/
inductive D where
  | non | bl (b : Bool) | int (i : Int) | str (x : Str) | tup (xs : List D) | lst (xs : List D) | mu (n : Nat) | fz (xs : List D)
  | dk (ks : List Key) (vs : List D) | dt (ks : List (List Key)) (vs : List D) | ins (C : Addr) (ns : List Str) (vs : List D) | ct (xs : List D)

abbrev MM := List D
abbrev En := List (Option D)
abbrev FE := En → MM → Option (D × MM)
abbrev FB := En → MM → Option (Bool × MM)
abbrev FA := En → MM → Option (List D × MM)
inductive Out where
  | nx (r : En) | rt (d : D) | bk (r : En) | ct (r : En)
abbrev FS := En → MM → Option (Out × MM)
abbrev FT := D → En → Option En
abbrev FC := List D → MM → Option (D × MM)

/-- a list that nobody may change: the script's, or one of the written part -/
def Fz (K : PySem.W.Frag) (H : Hp) (a : Addr) (xs : List V) : Prop := (∃ o : Obj, H a = some (.frz o (.lst xs))) ∨
  ∃ (o : Obj) (its : Array Value) (n : Nat), K.lookup a = some o ∧ o.cls = .type "list" ∧ o.dict = none ∧ o.data = .seq its n ∧ its.size ≤ sizeLine ∧ Vals xs its.toList
theorem Fz.sq {K : PySem.W.Frag} {H : Hp} {a : Addr} {xs : List V} (h : Fz K H a xs) : SqL K H a xs := by
  rcases h with ⟨o, h⟩ | h
  · exact .inl (.inr ⟨o, h⟩)
  · exact .inr h
mutual
inductive RV (K : PySem.W.Frag) (H : Hp) (ms ex : List Addr) : V → D → Prop
  | non : RV K H ms ex .non .non
  | bl (b : Bool) : RV K H ms ex (.bl b) (.bl b)
  | int (i : Int) : RV K H ms ex (.int i) (.int i)
  | str (x : Str) : RV K H ms ex (.str x) (.str x)
  | tup {a : Addr} {xs : List V} {ds : List D} : H a = some (.tup xs) → RVs K H ms ex xs ds → RV K H ms ex (.ref a) (.tup ds)
  | fz {a : Addr} {xs : List V} {ds : List D} : Fz K H a xs → RVs K H ms ex xs ds → RV K H ms ex (.ref a) (.fz ds)
  | lst {a : Addr} {xs : List V} {ds : List D} : H a = some (.lst xs) → a ∉ ms → a ∉ ex → RVs K H ms ex xs ds → RV K H ms ex (.ref a) (.lst ds)
  | ct {a : Addr} {xs : List V} {ds : List D} : SqT K H a xs → RVs K H ms ex xs ds → RV K H ms ex (.ref a) (.ct ds)
  | mu {a : Addr} {n : Nat} : ms[n]? = some a → RV K H ms ex (.ref a) (.mu n)
  | dk {a : Addr} {ks : List Key} {xs : List V} {ds : List D} : H a = some (.dK (ks.zip xs)) → a ∉ ms → a ∉ ex → ks.length = ds.length → RVs K H ms ex xs ds → RV K H ms ex (.ref a) (.dk ks ds)
  | dt {a : Addr} {ks : List (List Key)} {xs : List V} {ds : List D} : Rd H a (.dT (ks.zip xs)) → a ∉ ms → a ∉ ex → ks.length = ds.length → RVs K H ms ex xs ds → RV K H ms ex (.ref a) (.dt ks ds)
  | ins {a C dx : Addr} {ns : List Str} {xs : List V} {ds : List D} : H a = some (.ins C dx (ns.zip xs)) → a ∉ ms → a ∉ ex → ns.length = ds.length → RVs K H ms ex xs ds → RV K H ms ex (.ref a) (.ins C ns ds)
inductive RVs (K : PySem.W.Frag) (H : Hp) (ms ex : List Addr) : List V → List D → Prop
  | nil : RVs K H ms ex [] []
  | cons {v : V} {vs : List V} {d : D} {ds : List D} : RV K H ms ex v d → RVs K H ms ex vs ds → RVs K H ms ex (v :: vs) (d :: ds)
end

variable {tb : List Addr} {K : PySem.W.Frag} {H H' H1 : Hp} {ms ms' ex ex' : List Addr} {M M' M1 : MM}

theorem RVs.length : ∀ {vs : List V} {ds : List D}, RVs K H ms ex vs ds → vs.length = ds.length
  | _, _, .nil => rfl
  | _, _, .cons _ t => by simp [RVs.length t]
theorem RVs.get : ∀ {vs : List V} {ds : List D} {i : Nat} {d : D}, RVs K H ms ex vs ds → ds[i]? = some d → ∃ v, vs[i]? = some v ∧ RV K H ms ex v d
  | _, _, _, _, .nil, e => by simp at e
  | _, _, 0, _, .cons r _, e => by simp at e; subst e; exact ⟨_, rfl, r⟩
  | _, _, i + 1, d, .cons _ t, e => by
    obtain ⟨u, h1, h2⟩ := RVs.get (i := i) (d := d) t (by simpa using e)
    exact ⟨u, by simpa using h1, h2⟩
theorem RVs.get' : ∀ {vs : List V} {ds : List D} {i : Nat} {v : V}, RVs K H ms ex vs ds → vs[i]? = some v → ∃ d, ds[i]? = some d ∧ RV K H ms ex v d
  | _, _, _, _, .nil, e => by simp at e
  | _, _, 0, _, .cons r _, e => by simp at e; subst e; exact ⟨_, rfl, r⟩
  | _, _, i + 1, d, .cons _ t, e => by
    obtain ⟨u, h1, h2⟩ := RVs.get' (i := i) (v := d) t (by simpa using e)
    exact ⟨u, by simpa using h1, h2⟩
theorem RVs.append : ∀ {xs ys : List V} {ds es : List D}, RVs K H ms ex xs ds → RVs K H ms ex ys es → RVs K H ms ex (xs ++ ys) (ds ++ es)
  | _, _, _, _, .nil, s => s
  | _, _, _, _, .cons r t, s => .cons r (RVs.append t s)
theorem RVs.take : ∀ {xs : List V} {ds : List D} (n : Nat), RVs K H ms ex xs ds → RVs K H ms ex (xs.take n) (ds.take n)
  | _, _, 0, _ => .nil
  | _, _, _ + 1, .nil => .nil
  | _, _, n + 1, .cons r t => .cons r (RVs.take n t)
theorem RVs.drop : ∀ {xs : List V} {ds : List D} (n : Nat), RVs K H ms ex xs ds → RVs K H ms ex (xs.drop n) (ds.drop n)
  | _, _, 0, r => r
  | _, _, _ + 1, .nil => .nil
  | _, _, n + 1, .cons _ t => RVs.drop n t
theorem RVs.set {v : V} {d : D} (r : RV K H ms ex v d) : ∀ {xs : List V} {ds : List D} (i : Nat), RVs K H ms ex xs ds → RVs K H ms ex (xs.set i v) (ds.set i d)
  | _, _, _, .nil => .nil
  | _, _, 0, .cons _ t => .cons r t
  | _, _, i + 1, .cons q t => .cons q (RVs.set r i t)
theorem RVs.rep {xs : List V} {ds : List D} (h : RVs K H ms ex xs ds) : ∀ k : Nat, RVs K H ms ex (List.replicate k xs).flatten (List.replicate k ds).flatten
  | 0 => .nil
  | k + 1 => by rw [List.replicate_succ, List.replicate_succ, List.flatten_cons, List.flatten_cons]; exact h.append (RVs.rep h k)
theorem RVs.ints : ∀ {vs : List V} {ns : List Int}, RVs K H ms ex vs (ns.map D.int) → vs = ns.map V.int
  | _, [], h => by cases h; rfl
  | _, n :: ns, h => by
    cases h with
    | cons a b => cases a; rw [RVs.ints b]; rfl
theorem RVs.bools : ∀ {vs : List V} {ns : List Bool}, RVs K H ms ex vs (ns.map D.bl) → vs = ns.map V.bl
  | _, [], h => by cases h; rfl
  | _, n :: ns, h => by
    cases h with
    | cons a b => cases a; rw [RVs.bools b]; rfl
theorem RVs.of_ints : ∀ (ns : List Int), RVs K H ms ex (ns.map V.int) (ns.map D.int)
  | [] => .nil
  | n :: ns => .cons (.int n) (RVs.of_ints ns)

/-- from one heap to the next: what is tracked stays, but for the lists that may change -/
structure Ext (ms : List Addr) (H H' : Hp) : Prop where
  keep : ∀ a o, H a = some o → a ∉ ms → (∀ ps, o ≠ .tbl ps) → H' a = some o
  tab : ∀ a ps, H a = some (.tbl ps) → a ∉ ms → ∃ ps', H' a = some (.tbl ps')
instance : CoeFun (Ext ms H H') fun _ => ∀ a o, H a = some o → a ∉ ms → (∀ ps, o ≠ .tbl ps) → H' a = some o := ⟨Ext.keep⟩
theorem Ext.refl (H : Hp) : Ext ms H H := ⟨fun _ _ h _ _ => h, fun _ ps h _ => ⟨ps, h⟩⟩
theorem Ext.trans (a : Ext ms H H1) (b : Ext ms H1 H') : Ext ms H H' := ⟨fun c o h n t => b c o (a c o h n t) n t, fun c ps h n => by
    obtain ⟨ps', h'⟩ := a.tab c ps h n
    exact b.tab c ps' h' n⟩
theorem Ext.of (h : Same H H') : Ext ms H H' := ⟨fun a o e _ _ => h a o e, fun a ps e _ => ⟨ps, h _ _ e⟩⟩
theorem Ext.gone {a : Addr} (x : Ext ms H H') (n : a ∉ ms) (h : H' a = none) : H a = none := by
  cases e : H a with
  | none => rfl
  | some o =>
    by_cases t : ∃ ps, o = .tbl ps
    · obtain ⟨ps, rfl⟩ := t
      obtain ⟨ps', e'⟩ := x.tab a ps e n
      rw [h] at e'
      cases e'
    · have := x a o e n fun ps z => t ⟨ps, z⟩
      rw [h] at this
      cases this

/-- what may change or is being made -/
def Thing (H : Hp) (a : Addr) : Prop := (∃ xs, H a = some (.lst xs)) ∨ (∃ kvs, H a = some (.dK kvs)) ∨ ∃ kvs, H a = some (.dT kvs)
theorem Thing.ne {a : Addr} {o : HO} (t : Thing H a) (e : H a = some o) (h1 : ∀ xs, o ≠ .lst xs) (h2 : ∀ kvs, o ≠ .dK kvs) (h3 : ∀ kvs, o ≠ .dT kvs) : False := by
  rcases t with ⟨xs, q⟩ | ⟨xs, q⟩ | ⟨xs, q⟩
  · rw [e] at q; exact h1 xs (Option.some.inj q)
  · rw [e] at q; exact h2 xs (Option.some.inj q)
  · rw [e] at q; exact h3 xs (Option.some.inj q)
theorem Thing.same {a : Addr} {H' : Hp} (t : Thing H a) (e : Same H H') : Thing H' a := by
  rcases t with ⟨xs, q⟩ | ⟨xs, q⟩ | ⟨xs, q⟩
  · exact .inl ⟨xs, e _ _ q⟩
  · exact .inr (.inl ⟨xs, e _ _ q⟩)
  · exact .inr (.inr ⟨xs, e _ _ q⟩)
/-- the thing at a says d, whoever may change it -/
inductive Raw (K : PySem.W.Frag) (H : Hp) (ms ex : List Addr) (a : Addr) : D → Prop
  | lst {xs : List V} {ds : List D} : H a = some (.lst xs) → RVs K H ms ex xs ds → Raw K H ms ex a (.lst ds)
  | dk {ks : List Key} {xs : List V} {ds : List D} : H a = some (.dK (ks.zip xs)) → ks.length = ds.length → RVs K H ms ex xs ds → Raw K H ms ex a (.dk ks ds)
  | dt {ks : List (List Key)} {xs : List V} {ds : List D} : H a = some (.dT (ks.zip xs)) → ks.length = ds.length → RVs K H ms ex xs ds → Raw K H ms ex a (.dt ks ds)
theorem Raw.thing {a : Addr} {d : D} (h : Raw K H ms ex a d) : Thing H a := by
  cases h with
  | lst e _ => exact .inl ⟨_, e⟩
  | dk e _ _ => exact .inr (.inl ⟨_, e⟩)
  | dt e _ _ => exact .inr (.inr ⟨_, e⟩)
theorem Raw.of {a : Addr} {d : D} {H' : Hp} {ms' ex' : List Addr} (h : Raw K H ms ex a d) (e : ∀ o, H a = some o → (∀ ps, o ≠ .tbl ps) → H' a = some o) (k : ∀ {v : List V} {ds : List D}, RVs K H ms ex v ds → RVs K H' ms' ex' v ds) : Raw K H' ms' ex' a d := by
  cases h with
  | lst q r => exact .lst (e _ q fun _ z => by cases z) (k r)
  | dk q l r => exact .dk (e _ q fun _ z => by cases z) l (k r)
  | dt q l r => exact .dt (e _ q fun _ z => by cases z) l (k r)
/-- the lists that may change, and those that are being made -/
structure RM (tb : List Addr) (K : PySem.W.Frag) (H : Hp) (ms ex : List Addr) (M : MM) : Prop where
  len : ms.length = M.length
  nd : ms.Nodup
  at_ : ∀ (n : Nat) (a : Addr) (ds : D), ms[n]? = some a → M[n]? = some ds → Raw K H ms ex a ds
  exs : ∀ a ∈ ex, a ∉ ms ∧ Thing H a
  tbs : ∀ a ∈ tb, GxR.TabG H a
theorem RM.lst (h : RM tb K H ms ex M) {a : Addr} (ha : a ∈ ms ∨ a ∈ ex) : Thing H a := by
  rcases ha with ha | ha
  · obtain ⟨n, hn, e⟩ := List.getElem_of_mem ha
    have e1 : ms[n]? = some a := by rw [List.getElem?_eq_getElem hn, e]
    have hn' : n < M.length := by rw [← h.len]; exact hn
    exact (h.at_ n a M[n] e1 (List.getElem?_eq_getElem hn')).thing
  · exact (h.exs a ha).2

theorem SqT.stay {a : Addr} {xs : List V} (hw : ∀ b, b ∈ ms ∨ b ∈ ex → Thing H b) (k : ∀ b o, H b = some o → b ∉ ms → b ∉ ex → (∀ ps, o ≠ .tbl ps) → H' b = some o) (h : SqT K H a xs) : SqT K H' a xs := by
  have nm : ∀ o, H a = some o → (∀ ys, o ≠ .lst ys) → (∀ ys, o ≠ .dK ys) → (∀ ys, o ≠ .dT ys) → a ∉ ms ∧ a ∉ ex := fun o e d d2 d3 => ⟨fun z => (hw a (.inl z)).ne e d d2 d3, fun z => (hw a (.inr z)).ne e d d2 d3⟩
  rcases h with (h | ⟨o, h⟩) | h
  · obtain ⟨n1, n2⟩ := nm _ h (fun ys z => by cases z) (fun ys z => by cases z) (fun ys z => by cases z)
    exact .inl (.inl (k a _ h n1 n2 fun _ z => by cases z))
  · obtain ⟨n1, n2⟩ := nm _ h (fun ys z => by cases z) (fun ys z => by cases z) (fun ys z => by cases z)
    exact .inl (.inr ⟨o, k a _ h n1 n2 fun _ z => by cases z⟩)
  · exact .inr h

mutual
theorem RV.mono (h1 : ∀ (n : Nat) (a : Addr), ms[n]? = some a → ms'[n]? = some a) (h2 : ∀ a o, H a = some o → (a ∈ ms' → a ∈ ms) ∧ (a ∈ ex' → a ∈ ms ∨ a ∈ ex))
    (hw : ∀ b, b ∈ ms ∨ b ∈ ex → Thing H b) (k : ∀ b o, H b = some o → b ∉ ms → b ∉ ex → (∀ ps, o ≠ .tbl ps) → H' b = some o) : ∀ {v : V} {d : D}, RV K H ms ex v d → RV K H' ms' ex' v d
  | _, _, .non => .non
  | _, _, .bl b => .bl b
  | _, _, .int i => .int i
  | _, _, .str x => .str x
  | _, _, .tup (a := a) s r => .tup (k a _ s (fun z => (hw a (.inl z)).ne s (fun _ y => by cases y) (fun _ y => by cases y) fun _ y => by cases y) (fun z => (hw a (.inr z)).ne s (fun _ y => by cases y) (fun _ y => by cases y) fun _ y => by cases y) fun _ y => by cases y) (RVs.mono h1 h2 hw k r)
  | _, _, .ct s r => .ct (SqT.stay hw k s) (RVs.mono h1 h2 hw k r)
  | _, _, .fz (a := a) s r => by
    refine .fz ?_ (RVs.mono h1 h2 hw k r)
    rcases s with ⟨o, s⟩ | s
    · exact .inl ⟨o, k a _ s (fun z => (hw a (.inl z)).ne s (fun _ y => by cases y) (fun _ y => by cases y) fun _ y => by cases y) (fun z => (hw a (.inr z)).ne s (fun _ y => by cases y) (fun _ y => by cases y) fun _ y => by cases y) fun _ y => by cases y⟩
    · exact .inr s
  | _, _, .dk (a := a) s n1 n2 l r => .dk (k a _ s n1 n2 fun _ z => by cases z) (fun z => n1 ((h2 a _ s).1 z)) (fun z => ((h2 a _ s).2 z).elim n1 n2) l (RVs.mono h1 h2 hw k r)
  | _, _, .dt (a := a) s n1 n2 l r => by
    have r' := RVs.mono h1 h2 hw k r
    rcases s with s | ⟨o, s⟩
    · exact .dt (.inl (k a _ s n1 n2 fun _ z => by cases z)) (fun z => n1 ((h2 a _ s).1 z)) (fun z => ((h2 a _ s).2 z).elim n1 n2) l r'
    · exact .dt (.inr ⟨o, k a _ s n1 n2 fun _ z => by cases z⟩) (fun z => n1 ((h2 a _ s).1 z)) (fun z => ((h2 a _ s).2 z).elim n1 n2) l r'
  | _, _, .ins (a := a) s n1 n2 l r => .ins (k a _ s n1 n2 fun _ z => by cases z) (fun z => n1 ((h2 a _ s).1 z)) (fun z => ((h2 a _ s).2 z).elim n1 n2) l (RVs.mono h1 h2 hw k r)
  | _, _, .lst (a := a) s n1 n2 r => .lst (k a _ s n1 n2 fun _ z => by cases z) (fun z => n1 ((h2 a _ s).1 z)) (fun z => ((h2 a _ s).2 z).elim n1 n2) (RVs.mono h1 h2 hw k r)
  | _, _, .mu e => .mu (h1 _ _ e)
theorem RVs.mono (h1 : ∀ (n : Nat) (a : Addr), ms[n]? = some a → ms'[n]? = some a) (h2 : ∀ a o, H a = some o → (a ∈ ms' → a ∈ ms) ∧ (a ∈ ex' → a ∈ ms ∨ a ∈ ex))
    (hw : ∀ b, b ∈ ms ∨ b ∈ ex → Thing H b) (k : ∀ b o, H b = some o → b ∉ ms → b ∉ ex → (∀ ps, o ≠ .tbl ps) → H' b = some o) : ∀ {v : List V} {d : List D}, RVs K H ms ex v d → RVs K H' ms' ex' v d
  | _, _, .nil => .nil
  | _, _, .cons a b => .cons (RV.mono h1 h2 hw k a) (RVs.mono h1 h2 hw k b)
end
theorem RV.ext {v : V} {d : D} (m : RM tb K H ms ex M) (e : Ext ms H H') (h : RV K H ms ex v d) : RV K H' ms ex v d :=
  RV.mono (fun _ _ z => z) (fun _ _ _ => ⟨id, .inr⟩) (fun _ z => m.lst z) (fun b o q n _ t => e b o q n t) h
theorem RVs.ext {v : List V} {d : List D} (m : RM tb K H ms ex M) (e : Ext ms H H') (h : RVs K H ms ex v d) : RVs K H' ms ex v d :=
  RVs.mono (fun _ _ z => z) (fun _ _ _ => ⟨id, .inr⟩) (fun _ z => m.lst z) (fun b o q n _ t => e b o q n t) h
theorem RM.same (m : RM tb K H ms ex M) (e : Same H H') : RM tb K H' ms ex M :=
  ⟨m.len, m.nd, fun n a ds h1 h2 => (m.at_ n a ds h1 h2).of (fun o q _ => e _ _ q) fun r => RVs.ext m (Ext.of e) r, fun a h => ⟨(m.exs a h).1, (m.exs a h).2.same e⟩, fun a h => by
    obtain ⟨ps, q, t⟩ := m.tbs a h
    exact ⟨ps, e _ _ q, t⟩⟩
theorem same_new {p : Addr} {o : HO} (h : H p = none) : Same H (upd H p o) := fun b x e => by
  rw [upd_ne (ne_of_none e h)]
  exact e

/-- the slots -/
structure Sl (K : PySem.W.Frag) (H : Hp) (ms ex : List Addr) (σ : L2.St) (r : En) : Prop where
  len : σ.length = r.length
  at_ : ∀ (i : Nat) (d : D), r[i]? = some (some d) → ∃ v, σ[i]? = some (some v) ∧ RV K H ms ex v d
theorem Sl.ext {σ : L2.St} {r : En} (m : RM tb K H ms ex M) (e : Ext ms H H') (h : Sl K H ms ex σ r) : Sl K H' ms ex σ r :=
  ⟨h.len, fun i d q => by
    obtain ⟨v, a, b⟩ := h.at_ i d q
    exact ⟨v, a, b.ext m e⟩⟩
theorem Sl.set {σ : L2.St} {r : En} {i : Nat} {v : V} {d : D} (h : Sl K H ms ex σ r) (hv : RV K H ms ex v d) : Sl K H ms ex (σ.set i (some v)) (r.set i (some d)) :=
  ⟨by simp [h.len], fun j e q => by
    by_cases hj : i = j
    · subst hj
      by_cases hi : i < r.length
      · rw [List.getElem?_set_self hi] at q
        cases q
        exact ⟨v, by rw [List.getElem?_set_self (by rw [h.len]; exact hi)], hv⟩
      · rw [List.getElem?_eq_none (by simpa using hi)] at q
        cases q
    · rw [List.getElem?_set_ne hj] at q
      obtain ⟨w, a, b⟩ := h.at_ j e q
      exact ⟨w, by rw [List.getElem?_set_ne hj]; exact a, b⟩⟩

/-! ### readings -/
def eM (tb : List Addr) (K : PySem.W.Frag) (f : FE) : TE := fun σ H Q => ∃ ms ex r M d M', RM tb K H ms ex M ∧ Sl K H ms ex σ r ∧ f r M = some (d, M') ∧ ∀ H' v, Ext ms H H' → RM tb K H' ms ex M' → RV K H' ms ex v d → Q v H'
def bM (tb : List Addr) (K : PySem.W.Frag) (f : FB) : TT := fun σ H Q => ∃ ms ex r M d M', RM tb K H ms ex M ∧ Sl K H ms ex σ r ∧ f r M = some (d, M') ∧ ∀ H', Ext ms H H' → RM tb K H' ms ex M' → Q d H'
def aM (tb : List Addr) (K : PySem.W.Frag) (f : FA) : TA := fun σ H Q => ∃ ms ex r M d M', RM tb K H ms ex M ∧ Sl K H ms ex σ r ∧ f r M = some (d, M') ∧ ∀ H' v, Ext ms H H' → RM tb K H' ms ex M' → RVs K H' ms ex v d → Q v H'
def oEnd (K : PySem.W.Frag) (ms ex : List Addr) (D : Ends) (H' : Hp) : Out → Prop
  | .nx r => ∀ σ', Sl K H' ms ex σ' r → D.nx σ' H'
  | .rt d => ∀ v, RV K H' ms ex v d → D.rt v H'
  | .bk r => ∀ σ', Sl K H' ms ex σ' r → D.bk σ' H'
  | .ct r => ∀ σ', Sl K H' ms ex σ' r → D.ct σ' H'
def sM (tb : List Addr) (K : PySem.W.Frag) (f : FS) : TS := fun D σ H => ∃ ms ex r M o M', RM tb K H ms ex M ∧ Sl K H ms ex σ r ∧ f r M = some (o, M') ∧ ∀ H', Ext ms H H' → RM tb K H' ms ex M' → oEnd K ms ex D H' o
def gM (K : PySem.W.Frag) (f : FT) : TG := fun v σ H Q => ∃ ms ex r d r', Sl K H ms ex σ r ∧ RV K H ms ex v d ∧ f d r = some r' ∧ ∀ σ', Sl K H ms ex σ' r' → Q σ' H
def gsM (K : PySem.W.Frag) (f : List D → En → Option En) : TGs := fun v σ H Q => ∃ ms ex r d r', Sl K H ms ex σ r ∧ RVs K H ms ex v d ∧ f d r = some r' ∧ ∀ σ', Sl K H ms ex σ' r' → Q σ' H
def spM (tb : List Addr) (K : PySem.W.Frag) (n : Nat) (g : FC) : Sp := fun vs H Q _ => ∃ ms ex M ds d M', RM tb K H ms ex M ∧ RVs K H ms ex vs ds ∧ ds.length = n ∧ g ds M = some (d, M') ∧ ∀ H' v, Ext ms H H' → RM tb K H' ms ex M' → RV K H' ms ex v d → Q v H'

section
variable {X : Cx} {e : Expr} {es : List Expr} {st : Stmt} {sts : List Stmt}
theorem _root_.L2.PE.weak {t t' : TE} (h : PE X e t) (k : ∀ σ H Q, t' σ H Q → t σ H Q) : PE X e t' := ⟨fun pins s σ H Q I q => h.run pins s σ H Q I (k σ H Q q)⟩
theorem _root_.L2.PT.weak {t t' : TT} (h : PT X e t) (k : ∀ σ H Q, t' σ H Q → t σ H Q) : PT X e t' := ⟨fun pins s σ H Q I q => h.run pins s σ H Q I (k σ H Q q)⟩
theorem _root_.L2.PW.weak {t t' : TT} (h : PW X e t) (k : ∀ σ H Q, t' σ H Q → t σ H Q) : PW X e t' := ⟨fun wh pins s σ H Q I q => h.run wh pins s σ H Q I (k σ H Q q)⟩
theorem _root_.L2.PA.weak {t t' : TA} (h : PA X es t) (k : ∀ σ H Q, t' σ H Q → t σ H Q) : PA X es t' := ⟨fun pos pins s σ H Q I q => h.run pos pins s σ H Q I (k σ H Q q)⟩
theorem _root_.L2.PS.weak {t t' : TS} (h : PS X st t) (k : ∀ D σ H, t' D σ H → t D σ H) : PS X st t' := ⟨fun pins s σ H D I q => h.run pins s σ H D I (k D σ H q)⟩
theorem _root_.L2.PSs.weak {t t' : TS} (h : PSs X sts t) (k : ∀ D σ H, t' D σ H → t D σ H) : PSs X sts t' := ⟨fun pins s σ H D I q => h.run pins s σ H D I (k D σ H q)⟩
theorem _root_.L2.PG.weak {t t' : TG} (h : PG X e t) (k : ∀ v σ H Q, t' v σ H Q → t v σ H Q) : PG X e t' := ⟨fun pins s σ H v u Q I r q => h.run pins s σ H v u Q I r (k v σ H Q q)⟩
theorem _root_.L2.PGs.weak {t t' : TGs} (h : PGs X es t) (k : ∀ v σ H Q, t' v σ H Q → t v σ H Q) : PGs X es t' := ⟨fun pins s σ H v u Q I r q => h.run pins s σ H v u Q I r (k v σ H Q q)⟩
end
end NL

/-! ML2: expressions. -/
namespace NL
open PySem PySem.Spec PyProof.Rows L2
variable {tb : List Addr} {K : PySem.W.Frag} {H H' H1 : Hp} {ms ms' ex ex' : List Addr} {M M' M1 : MM}

/-! ### plain functions -/
def mVar (i : Nat) : FE := fun r M => match r[i]? with
  | some (some d) => some (d, M)
  | _ => none
def mC (d : D) : FE := fun _ M => some (d, M)
def mNil : FA := fun _ M => some ([], M)
def mCons (f : FE) (g : FA) : FA := fun r M => match f r M with
  | some (d, M1) => match g r M1 with
    | some (ds, M2) => some (d :: ds, M2)
    | none => none
  | none => none
def mTup (f : FA) : FE := fun r M => match f r M with
  | some (ds, M1) => some (.tup ds, M1)
  | none => none
def mLst (f : FA) : FE := fun r M => match f r M with
  | some (ds, M1) => some (.lst ds, M1)
  | none => none
/-- an operator upon two values -/
def mOp (o : MM → D → D → Option D) (f g : FE) : FE := fun r M => match f r M with
  | some (x, M1) => match g r M1 with
    | some (y, M2) => match o M2 x y with
      | some z => some (z, M2)
      | none => none
    | none => none
  | none => none
def mUn (o : D → Option D) (f : FE) : FE := fun r M => match f r M with
  | some (x, M1) => match o x with
    | some z => some (z, M1)
    | none => none
  | none => none
def mB (f : FE) : FB := fun r M => match f r M with
  | some (.bl b, M1) => some (b, M1)
  | _ => none
def mAnd (f g : FE) : FE := fun r M => match f r M with
  | some (.bl true, M1) => g r M1
  | some (.bl false, M1) => some (.bl false, M1)
  | _ => none
def mOr (f g : FE) : FE := fun r M => match f r M with
  | some (.bl true, M1) => some (.bl true, M1)
  | some (.bl false, M1) => g r M1
  | _ => none
def mNot (f : FE) : FE := fun r M => match f r M with
  | some (.bl b, M1) => some (.bl (!b), M1)
  | _ => none
def mIf (c : FE) (f g : FE) : FE := fun r M => match c r M with
  | some (.bl true, M1) => f r M1
  | some (.bl false, M1) => g r M1
  | _ => none
def mChain (o o' : MM → D → D → Option D) (f g h : FE) : FE := fun r M => match f r M with
  | some (x, M1) => match g r M1 with
    | some (y, M2) => match o M2 x y with
      | some (.bl true) => match h r M2 with
        | some (z, M3) => match o' M3 y z with
          | some (.bl b) => some (.bl b, M3)
          | _ => none
        | none => none
      | some (.bl false) => some (.bl false, M2)
      | _ => none
    | none => none
  | none => none
/-- a function of values upon an argument list -/
def mFn (o : MM → List D → Option D) (f : FA) : FE := fun r M => match f r M with
  | some (ds, M1) => match o M1 ds with
    | some z => some (z, M1)
    | none => none
  | none => none
def mCall (g : FC) (f : FA) : FE := fun r M => match f r M with
  | some (ds, M1) => g ds M1
  | none => none

/-! ### what a rule by values wants -/
def OpS (tb : List Addr) (K : PySem.W.Frag) (r : R2) (o : MM → D → D → Option D) : Prop := ∀ (H : Hp) (ms ex : List Addr) (M : MM) (v u : V) (x y z : D) (Q : VK), RM tb K H ms ex M → RV K H ms ex v x → RV K H ms ex u y → o M x y = some z →
  (∀ H' v', Ext ms H H' → RM tb K H' ms ex M → RV K H' ms ex v' z → Q v' H') → r v u H Q
def UnS (tb : List Addr) (K : PySem.W.Frag) (r : V → Hp → VK → Prop) (o : D → Option D) : Prop := ∀ (H : Hp) (ms ex : List Addr) (M : MM) (v : V) (x z : D) (Q : VK), RM tb K H ms ex M → RV K H ms ex v x → o x = some z →
  (∀ H' v', Ext ms H H' → RM tb K H' ms ex M → RV K H' ms ex v' z → Q v' H') → r v H Q
def CallS (tb : List Addr) (K : PySem.W.Frag) (r : List V → Hp → VK → Prop) (o : MM → List D → Option D) : Prop := ∀ (H : Hp) (ms ex : List Addr) (M : MM) (v : List V) (x : List D) (z : D) (Q : VK), RM tb K H ms ex M → RVs K H ms ex v x → o M x = some z →
  (∀ H' v', Ext ms H H' → RM tb K H' ms ex M → RV K H' ms ex v' z → Q v' H') → r v H Q

section
variable {X : Cx} {pos : Pos} {a b c : Expr} {es : List Expr} {f g h : FE} {fa : FA}

theorem eM.use {σ : L2.St} {r : En} {f : FE} {d : D} {Q : VK} (m : RM tb K H ms ex M) (s : Sl K H ms ex σ r) (e : f r M = some (d, M'))
    (q : ∀ H' v, Ext ms H H' → RM tb K H' ms ex M' → Sl K H' ms ex σ r → RV K H' ms ex v d → Q v H') : eM tb K f σ H Q :=
  ⟨ms, ex, r, M, d, M', m, s, e, fun H' v x m' rv => q H' v x m' (s.ext m x) rv⟩
theorem aM.use {σ : L2.St} {r : En} {f : FA} {d : List D} {Q : List V → Hp → Prop} (m : RM tb K H ms ex M) (s : Sl K H ms ex σ r) (e : f r M = some (d, M'))
    (q : ∀ H' v, Ext ms H H' → RM tb K H' ms ex M' → Sl K H' ms ex σ r → RVs K H' ms ex v d → Q v H') : aM tb K f σ H Q :=
  ⟨ms, ex, r, M, d, M', m, s, e, fun H' v x m' rv => q H' v x m' (s.ext m x) rv⟩
theorem bM.use {σ : L2.St} {r : En} {f : FB} {d : Bool} {Q : Bool → Hp → Prop} (m : RM tb K H ms ex M) (s : Sl K H ms ex σ r) (e : f r M = some (d, M'))
    (q : ∀ H', Ext ms H H' → RM tb K H' ms ex M' → Sl K H' ms ex σ r → Q d H') : bM tb K f σ H Q :=
  ⟨ms, ex, r, M, d, M', m, s, e, fun H' x m' => q H' x m' (s.ext m x)⟩

theorem m_of {i : Nat} {σ : L2.St} {Q : VK} (h : eM tb K (mVar i) σ H Q) : tVar i σ H Q := by
  obtain ⟨ms, ex, r, M, d, M', m, s, e, q⟩ := h
  unfold mVar at e
  split at e
  · rename_i d' hd
    cases e
    obtain ⟨v, h1, h2⟩ := s.at_ _ _ hd
    exact ⟨v, h1, q H v (Ext.refl H) m h2⟩
  · cases e
theorem me_var {i : Nat} {x : Str} (hN : X.N[i]? = some x := by rfl) (hv : Vis X.env.scope x := by first | exact Or.inl rfl | exact Or.inr (Or.inl rfl) | exact Or.inr (Or.inr rfl)) (hd : (x == ("__debug__" : Str)) = false := by decide)
    (hcd : (x == ("__classdict__" : Str)) = false := by decide) : PE X (.Name x pos) (eM tb X.K (mVar i)) :=
  (pe_var hN hv hd hcd).weak fun _ _ _ h => m_of h
theorem m_c {v : V} {d : D} {σ : L2.St} {Q : VK} (hv : ∀ H ms ex, RV K H ms ex v d) (h : eM tb K (mC d) σ H Q) : tC v σ H Q := by
  obtain ⟨ms, ex, r, M, d', M', m, s, e, q⟩ := h
  cases e
  exact q H v (Ext.refl H) m (hv _ _ _)
theorem me_int {i j} : PE X (.Constant (.int i) j pos) (eM tb X.K (mC (.int i))) := pe_int.weak fun _ _ _ h => m_c (fun _ _ _ => .int _) h
theorem me_bl {b j} : PE X (.Constant (.bool b) j pos) (eM tb X.K (mC (.bl b))) := pe_bl.weak fun _ _ _ h => m_c (fun _ _ _ => .bl _) h
theorem me_non {j} : PE X (.Constant .none j pos) (eM tb X.K (mC .non)) := pe_non.weak fun _ _ _ h => m_c (fun _ _ _ => .non) h
theorem me_str {x j} : PE X (.Constant (.str x) j pos) (eM tb X.K (mC (.str x))) := pe_str.weak fun _ _ _ h => m_c (fun _ _ _ => .str _) h
theorem me_globI {x : Str} {i : Int} {t : Tok} (hg : Gl X x) (hm : X.mg x = some (.int i t)) (hd : (x == ("__debug__" : Str)) = false := by decide) : PE X (.Name x pos) (eM tb X.K (mC (.int i))) :=
  (pe_glob hg hm (v := .int i) ⟨t, rfl⟩ hd).weak fun _ _ _ h => m_c (fun _ _ _ => .int _) h
theorem me_globR {x : Str} {q : Addr} {d : D} (hg : Gl X x) (hm : X.mg x = some (.ref q)) (hr : ∀ H ms ex, RV X.K H ms ex (.ref q) d) (hd : (x == ("__debug__" : Str)) = false := by decide) : PE X (.Name x pos) (eM tb X.K (mC d)) :=
  (pe_glob hg hm (v := .ref q) rfl hd).weak fun _ _ _ h => m_c hr h

theorem ma_nil : PA X [] (aM tb X.K mNil) := pa_nil.weak fun σ H Q h => by
  obtain ⟨ms, ex, r, M, d', M', m, s, e, q⟩ := h
  cases e
  exact q H [] (Ext.refl H) m .nil
theorem ma_cons (ha : PE X a (eM tb X.K f)) (hr : PA X es (aM tb X.K fa)) (hs : starEach (a :: es) X.env = (false, eval a X.env) :: starEach es X.env := by rfl) : PA X (a :: es) (aM tb X.K (mCons f fa)) :=
  (pa_cons ha hr hs).weak fun σ H Q h => by
    obtain ⟨ms, ex, r, M, d', M', m, s, e, q⟩ := h
    unfold mCons at e
    split at e
    · rename_i d M1 h1
      split at e
      · rename_i ds M2 h2
        cases e
        refine eM.use m s h1 fun H1 v1 x1 m1 s1 r1 => ?_
        refine aM.use m1 s1 h2 fun H2 v2 x2 m2 s2 r2 => ?_
        exact q H2 _ (x1.trans x2) m2 (.cons (r1.ext m1 x2) r2)
      · cases e
    · cases e
theorem RVs.small {v : List V} {ds : List D} (r : RVs K H ms ex v ds) (h : ds.length ≤ 1000) : v.length ≤ sizeLine := by
  rw [r.length]
  exact Nat.le_of_lt (small1000 h)
theorem me_tup {x1} (h : PA X es (aM tb X.K fa)) (hn : ∀ r M ds M', fa r M = some (ds, M') → ds.length ≤ 1000) : PE X (.Tuple es x1 pos) (eM tb X.K (mTup fa)) :=
  (pe_tup h).weak fun σ H Q h => by
    obtain ⟨ms, ex, r, M, d', M', m, s, e, q⟩ := h
    unfold mTup at e
    split at e
    · rename_i ds M1 h1
      cases e
      refine aM.use m s h1 fun H1 v1 x1 m1 s1 r1 => ⟨r1.small (hn _ _ _ _ h1), fun p hp => ?_⟩
      have sm := same_new (o := .tup v1) hp
      exact q _ _ (x1.trans (Ext.of sm)) (m1.same sm) (.tup upd_same (r1.ext m1 (Ext.of sm)))
    · cases e
theorem fresh_ms (m : RM tb K H ms ex M) {p : Addr} (hp : H p = none) : p ∉ ms ∧ p ∉ ex := by
  constructor
  · intro z
    rcases m.lst (.inl z) with ⟨xs, e⟩ | ⟨xs, e⟩ | ⟨xs, e⟩ <;> (rw [hp] at e; cases e)
  · intro z
    rcases m.lst (.inr z) with ⟨xs, e⟩ | ⟨xs, e⟩ | ⟨xs, e⟩ <;> (rw [hp] at e; cases e)
/-- a new list -/
theorem new_lst {p : Addr} {v1 : List V} {ds : List D} (m : RM tb K H ms ex M) (hp : H p = none) (r : RVs K H ms ex v1 ds) :
    Ext ms H (upd H p (.lst v1)) ∧ RM tb K (upd H p (.lst v1)) ms ex M ∧ RV K (upd H p (.lst v1)) ms ex (.ref p) (.lst ds) := by
  have sm := same_new (o := .lst v1) hp
  obtain ⟨n1, n2⟩ := fresh_ms m hp
  exact ⟨Ext.of sm, m.same sm, .lst upd_same n1 n2 (r.ext m (Ext.of sm))⟩
theorem new_tup {p : Addr} {v1 : List V} {ds : List D} (m : RM tb K H ms ex M) (hp : H p = none) (r : RVs K H ms ex v1 ds) :
    Ext ms H (upd H p (.tup v1)) ∧ RM tb K (upd H p (.tup v1)) ms ex M ∧ RV K (upd H p (.tup v1)) ms ex (.ref p) (.tup ds) := by
  have sm := same_new (o := .tup v1) hp
  exact ⟨Ext.of sm, m.same sm, .tup upd_same (r.ext m (Ext.of sm))⟩
theorem me_lst (h : PA X es (aM tb X.K fa)) (hn : ∀ r M ds M', fa r M = some (ds, M') → ds.length ≤ 1000) : PE X (.List es pos) (eM tb X.K (mLst fa)) :=
  (pe_lst h).weak fun σ H Q h => by
    obtain ⟨ms, ex, r, M, d', M', m, s, e, q⟩ := h
    unfold mLst at e
    split at e
    · rename_i ds M1 h1
      cases e
      refine aM.use m s h1 fun H1 v1 x1 m1 s1 r1 => ⟨r1.small (hn _ _ _ _ h1), fun p hp => ?_⟩
      obtain ⟨e1, m2, r2⟩ := new_lst m1 hp r1
      exact q _ _ (x1.trans e1) m2 r2
    · cases e
theorem ln_nil : ∀ r M ds M', mNil r M = some (ds, M') → ds.length ≤ 0 := by
  intro r M ds M' h
  cases h
  exact Nat.le_refl _
theorem ln_cons {n : Nat} (h : ∀ r M ds M', fa r M = some (ds, M') → ds.length ≤ n) : ∀ r M ds M', mCons f fa r M = some (ds, M') → ds.length ≤ n + 1 := by
  intro r M ds M' e
  unfold mCons at e
  split at e
  · split at e
    · rename_i h2
      cases e
      exact Nat.succ_le_succ (h _ _ _ _ h2)
    · cases e
  · cases e

/-! ### operators -/
theorem mt_op {r : R2} {o : MM → D → D → Option D} (hs : OpS tb X.K r o) (ha : PE X a (eM tb X.K f)) {σ : L2.St} {Q : VK} (h : eM tb X.K (mOp o f g) σ H Q) : tOp r (eM tb X.K f) (eM tb X.K g) σ H Q := by
  obtain ⟨ms, ex, r, M, d', M', m, s, e, q⟩ := h
  unfold mOp at e
  split at e
  · rename_i x M1 h1
    split at e
    · rename_i y M2 h2
      split at e
      · rename_i z h3
        cases e
        refine eM.use m s h1 fun H1 v1 x1 m1 s1 r1 => ?_
        refine eM.use m1 s1 h2 fun H2 v2 x2 m2 s2 r2 => ?_
        refine hs H2 ms ex _ v1 v2 x y _ Q m2 (r1.ext m1 x2) r2 h3 fun H3 v3 x3 m3 r3 => ?_
        exact q H3 v3 ((x1.trans x2).trans x3) m3 r3
      · cases e
    · cases e
  · cases e
theorem me_op {op : Operator} {r : R2} {o : MM → D → D → Option D} (ho : OpR X (binaryOp op) r) (hs : OpS tb X.K r o) (ha : PE X a (eM tb X.K f)) (hb : PE X b (eM tb X.K g)) : PE X (.BinOp a op b pos) (eM tb X.K (mOp o f g)) :=
  (pe_op ho ha hb).weak fun _ _ _ h => mt_op hs ha h
theorem me_cmp {op : CmpOp} {r : R2} {o : MM → D → D → Option D} (ho : OpR X (compareOp op) r) (hs : OpS tb X.K r o) (ha : PE X a (eM tb X.K f)) (hb : PE X b (eM tb X.K g)) (hm : behindInMarks op b = false) : PE X (.Compare a [op] [b] pos) (eM tb X.K (mOp o f g)) :=
  (pe_cmpR ho ha hb hm).weak fun _ _ _ h => mt_op hs ha h
theorem mt_b {σ : L2.St} {Q : Bool → Hp → Prop} (h : bM tb K (mB f) σ H Q) : eM tb K f σ H fun x H' => ∃ k, x = .bl k ∧ Q k H' := by
  obtain ⟨ms, ex, r, M, d', M', m, s, e, q⟩ := h
  unfold mB at e
  split at e
  · rename_i b M1 h1
    cases e
    refine eM.use m s h1 fun H1 v1 x1 m1 s1 r1 => ?_
    cases r1
    exact ⟨_, rfl, q H1 x1 m1⟩
  · cases e
theorem mp_cmp {op : CmpOp} {r : R2} {o : MM → D → D → Option D} (ho : OpR X (compareOp op) r) (hs : OpS tb X.K r o) (ha : PE X a (eM tb X.K f)) (hb : PE X b (eM tb X.K g)) (hm : behindInMarks op b = false) : PT X (.Compare a [op] [b] pos) (bM tb X.K (mB (mOp o f g))) :=
  (pt_cmpR ho ha hb hm).weak fun _ _ _ h => mt_op hs ha (mt_b h)
theorem me_un {op : UnaryOp} {r : V → Hp → VK → Prop} {o : D → Option D} (ho : UnR X (unaryOp op) r) (hs : UnS tb X.K r o) (ha : PE X a (eM tb X.K f)) : PE X (.UnaryOp op a pos) (eM tb X.K (mUn o f)) :=
  (pe_un ho ha).weak fun σ H Q h => by
    obtain ⟨ms, ex, r, M, d', M', m, s, e, q⟩ := h
    unfold mUn at e
    split at e
    · rename_i x M1 h1
      split at e
      · rename_i z h3
        cases e
        refine eM.use m s h1 fun H1 v1 x1 m1 s1 r1 => ?_
        exact hs H1 ms ex _ v1 x _ Q m1 r1 h3 fun H3 v3 x3 m3 r3 => q H3 v3 (x1.trans x3) m3 r3
      · cases e
    · cases e
theorem me_ix {r : R2} {o : MM → D → D → Option D} (hr : IxR X r) (hs : OpS tb X.K r o) (ha : PE X a (eM tb X.K f)) (hb : PE X b (eM tb X.K g)) (hp : PlainIx b) : PE X (.Subscript a b pos) (eM tb X.K (mOp o f g)) :=
  (pe_ix hr ha hb hp).weak fun _ _ _ h => mt_op hs ha h

/-! ### and, or, not, if -/
theorem me_and {rest : List Expr} (ha : PE X a (eM tb X.K f)) (hb : PE X (.BoolOp .And (b :: rest) pos) (eM tb X.K g)) : PE X (.BoolOp .And (a :: b :: rest) pos) (eM tb X.K (mAnd f g)) :=
  (pe_and ha hb).weak fun σ H Q h => by
    obtain ⟨ms, ex, r, M, d', M', m, s, e, q⟩ := h
    unfold mAnd at e
    split at e
    · rename_i M1 h1
      refine eM.use m s h1 fun H1 v1 x1 m1 s1 r1 => ?_
      cases r1
      exact ⟨true, rfl, iteT (eM.use m1 s1 e fun H2 v2 x2 m2 _ r2 => q H2 v2 (x1.trans x2) m2 r2)⟩
    · rename_i M1 h1
      cases e
      refine eM.use m s h1 fun H1 v1 x1 m1 s1 r1 => ?_
      cases r1
      exact ⟨false, rfl, iteF (q H1 _ x1 m1 (.bl false))⟩
    · cases e
theorem me_or {rest : List Expr} (ha : PE X a (eM tb X.K f)) (hb : PE X (.BoolOp .Or (b :: rest) pos) (eM tb X.K g)) : PE X (.BoolOp .Or (a :: b :: rest) pos) (eM tb X.K (mOr f g)) :=
  (pe_or ha hb).weak fun σ H Q h => by
    obtain ⟨ms, ex, r, M, d', M', m, s, e, q⟩ := h
    unfold mOr at e
    split at e
    · rename_i M1 h1
      cases e
      refine eM.use m s h1 fun H1 v1 x1 m1 s1 r1 => ?_
      cases r1
      exact ⟨true, rfl, iteT (q H1 _ x1 m1 (.bl true))⟩
    · rename_i M1 h1
      refine eM.use m s h1 fun H1 v1 x1 m1 s1 r1 => ?_
      cases r1
      exact ⟨false, rfl, iteF (eM.use m1 s1 e fun H2 v2 x2 m2 _ r2 => q H2 v2 (x1.trans x2) m2 r2)⟩
    · cases e
theorem me_one {op} (h : PE X a (eM tb X.K f)) : PE X (.BoolOp op [a] pos) (eM tb X.K f) := pe_one h
theorem me_not (ha : PE X a (eM tb X.K f)) : PE X (.UnaryOp .Not a pos) (eM tb X.K (mNot f)) :=
  (pe_not ha).weak fun σ H Q h => by
    obtain ⟨ms, ex, r, M, d', M', m, s, e, q⟩ := h
    unfold mNot at e
    split at e
    · rename_i b M1 h1
      cases e
      refine eM.use m s h1 fun H1 v1 x1 m1 s1 r1 => ?_
      cases r1
      exact ⟨_, rfl, q H1 _ x1 m1 (.bl _)⟩
    · cases e
/-- tests -/
theorem mp_val (h : PE X a (eM tb X.K f)) (he : ∀ whole, isTrue a X.env whole = (do let v ← whole; standAt a.pos; holding [v] (truthy v)) := by intro _; rfl) : PT X a (bM tb X.K (mB f)) :=
  (pt_val h he).weak fun _ _ _ h => mt_b h
theorem mw_and1 (ha : PT X a (bM tb X.K (mB f))) : PW X (.BoolOp .And [a] pos) (bM tb X.K (mB f)) := pw_and1 ha
theorem mw_or1 (ha : PT X a (bM tb X.K (mB f))) : PW X (.BoolOp .Or [a] pos) (bM tb X.K (mB f)) := pw_or1 ha
theorem mw_and {rest : List Expr} (ha : PT X a (bM tb X.K (mB f))) (hb : PW X (.BoolOp .And (b :: rest) pos) (bM tb X.K (mB g))) : PW X (.BoolOp .And (a :: b :: rest) pos) (bM tb X.K (mB (mAnd f g))) :=
  (pw_and ha hb).weak fun σ H Q h => by
    obtain ⟨ms, ex, r, M, d', M', m, s, e, q⟩ := h
    unfold mB mAnd at e
    split at e
    · rename_i b M1 h0
      cases e
      split at h0
      · rename_i M2 h1
        refine bM.use m s (by unfold mB; rw [h1]) fun H1 x1 m1 s1 => iteT ?_
        exact bM.use m1 s1 (by unfold mB; rw [h0]) fun H2 x2 m2 s2 => q H2 (x1.trans x2) m2
      · rename_i M2 h1
        cases h0
        refine bM.use m s (by unfold mB; rw [h1]) fun H1 x1 m1 s1 => iteF (q H1 x1 m1)
      · cases h0
    · cases e
theorem mw_or {rest : List Expr} (ha : PT X a (bM tb X.K (mB f))) (hb : PW X (.BoolOp .Or (b :: rest) pos) (bM tb X.K (mB g))) : PW X (.BoolOp .Or (a :: b :: rest) pos) (bM tb X.K (mB (mOr f g))) :=
  (pw_or ha hb).weak fun σ H Q h => by
    obtain ⟨ms, ex, r, M, d', M', m, s, e, q⟩ := h
    unfold mB mOr at e
    split at e
    · rename_i b M1 h0
      cases e
      split at h0
      · rename_i M2 h1
        cases h0
        refine bM.use m s (by unfold mB; rw [h1]) fun H1 x1 m1 s1 => iteT (q H1 x1 m1)
      · rename_i M2 h1
        refine bM.use m s (by unfold mB; rw [h1]) fun H1 x1 m1 s1 => iteF ?_
        exact bM.use m1 s1 (by unfold mB; rw [h0]) fun H2 x2 m2 s2 => q H2 (x1.trans x2) m2
      · cases h0
    · cases e
theorem mp_not (ha : PT X a (bM tb X.K (mB f))) : PT X (.UnaryOp .Not a pos) (bM tb X.K (mB (mNot f))) :=
  (pt_not ha).weak fun σ H Q h => by
    obtain ⟨ms, ex, r, M, d', M', m, s, e, q⟩ := h
    unfold mB mNot at e
    split at e
    · rename_i b M1 h0
      cases e
      split at h0
      · rename_i c M2 h1
        cases h0
        exact bM.use m s (by unfold mB; rw [h1]) fun H1 x1 m1 s1 => q H1 x1 m1
      · cases h0
    · cases e
theorem me_if (hc : PT X c (bM tb X.K (mB f))) (ha : PE X a (eM tb X.K g)) (hb : PE X b (eM tb X.K h)) : PE X (.IfExp c a b pos) (eM tb X.K (mIf f g h)) :=
  (pe_ifExp hc ha hb).weak fun σ H Q h => by
    obtain ⟨ms, ex, r, M, d', M', m, s, e, q⟩ := h
    unfold mIf at e
    split at e
    · rename_i M1 h1
      refine bM.use m s (by unfold mB; rw [h1]) fun H1 x1 m1 s1 => iteT ?_
      exact eM.use m1 s1 e fun H2 v2 x2 m2 _ r2 => q H2 v2 (x1.trans x2) m2 r2
    · rename_i M1 h1
      refine bM.use m s (by unfold mB; rw [h1]) fun H1 x1 m1 s1 => iteF ?_
      exact eM.use m1 s1 e fun H2 v2 x2 m2 _ r2 => q H2 v2 (x1.trans x2) m2 r2
    · cases e

/-! ### a chain -/
theorem mt_chain {r r' : R2} {o o' : MM → D → D → Option D} (hs : OpS tb K r o) (hs' : OpS tb K r' o') {σ : L2.St} {Q : VK} (hh : eM tb K (mChain o o' f g h) σ H Q) : tChain r r' (eM tb K f) (eM tb K g) (eM tb K h) σ H Q := by
  obtain ⟨ms, ex, r, M, d', M', m, s, e, q⟩ := hh
  unfold mChain at e
  split at e
  · rename_i x M1 h1
    split at e
    · rename_i y M2 h2
      refine eM.use m s h1 fun H1 v1 x1 m1 s1 r1 => ?_
      refine eM.use m1 s1 h2 fun H2 v2 x2 m2 s2 r2 => ?_
      split at e
      · rename_i h3
        refine hs H2 ms ex _ v1 v2 x y _ _ m2 (r1.ext m1 x2) r2 h3 fun H3 v3 x3 m3 r3 => ?_
        cases r3
        refine ⟨true, rfl, iteT ?_⟩
        split at e
        · rename_i z M3 h4
          split at e
          · rename_i b h5
            cases e
            refine eM.use m3 (s2.ext m2 x3) h4 fun H4 v4 x4 m4 s4 r4 => ?_
            refine hs' H4 ms ex _ v2 v4 y z _ Q m4 ((r2.ext m2 x3).ext m3 x4) r4 h5 fun H5 v5 x5 m5 r5 => ?_
            exact q H5 v5 ((((x1.trans x2).trans x3).trans x4).trans x5) m5 r5
          · cases e
        · cases e
      · rename_i h3
        cases e
        refine hs H2 ms ex _ v1 v2 x y _ _ m2 (r1.ext m1 x2) r2 h3 fun H3 v3 x3 m3 r3 => ?_
        cases r3
        exact ⟨false, rfl, iteF (q H3 _ ((x1.trans x2).trans x3) m3 (.bl false))⟩
      · cases e
    · cases e
  · cases e
theorem me_chain {op op' : CmpOp} {r r' : R2} {o o' : MM → D → D → Option D} (ho : OpR X (compareOp op) r) (ho' : OpR X (compareOp op') r') (hs : OpS tb X.K r o) (hs' : OpS tb X.K r' o') (ha : PE X a (eM tb X.K f)) (hb : PE X b (eM tb X.K g)) (hc : PE X c (eM tb X.K h))
    (hm : lastMarks [op, op'] [b, c] = false) : PE X (.Compare a [op, op'] [b, c] pos) (eM tb X.K (mChain o o' f g h)) :=
  (pe_chain ho ho' ha hb hc hm).weak fun _ _ _ h => mt_chain hs hs' h
theorem mp_chain {op op' : CmpOp} {r r' : R2} {o o' : MM → D → D → Option D} (ho : OpR X (compareOp op) r) (ho' : OpR X (compareOp op') r') (hs : OpS tb X.K r o) (hs' : OpS tb X.K r' o') (ha : PE X a (eM tb X.K f)) (hb : PE X b (eM tb X.K g)) (hc : PE X c (eM tb X.K h))
    (hm : lastMarks [op, op'] [b, c] = false) : PT X (.Compare a [op, op'] [b, c] pos) (bM tb X.K (mB (mChain o o' f g h))) :=
  (pt_chain ho ho' ha hb hc hm).weak fun _ _ _ h => mt_chain hs hs' (mt_b h)
end
end NL

/-! ML3: operators, built-in functions, calls. -/
namespace NL
open PySem PySem.Spec PyProof.Rows L2
variable {tb : List Addr} {K : PySem.W.Frag} {H H' H1 : Hp} {ms ms' ex ex' : List Addr} {M M' M1 : MM}

theorem OpS.or {r r' : R2} {o o' : MM → D → D → Option D} (h : OpS tb K r o) (h' : OpS tb K r' o') : OpS tb K (fun x y H Q => r x y H Q ∨ r' x y H Q) (fun M x y => match o M x y with | some z => some z | none => o' M x y) := by
  intro H ms ex M v u x y z Q m rv ru e q
  simp only at e
  split at e
  · rename_i z' h1
    cases e
    exact .inl (h H ms ex M v u x y _ Q m rv ru h1 q)
  · exact .inr (h' H ms ex M v u x y z Q m rv ru e q)

/-! ### + - * // % -/
def oAddI (_ : MM) : D → D → Option D
  | .int i, .int j => some (.int (i + j))
  | _, _ => none
def oAddT (_ : MM) : D → D → Option D
  | .tup xs, .tup ys => if xs.length + ys.length ≤ 1000 then some (.tup (xs ++ ys)) else none
  | _, _ => none
def oAddL (_ : MM) : D → D → Option D
  | .lst xs, .lst ys => if xs.length + ys.length ≤ 1000 then some (.lst (xs ++ ys)) else none
  | _, _ => none
def oAdd (M : MM) : D → D → Option D
  | .int i, .int j => some (.int (i + j))
  | .tup xs, .tup ys => if xs.length + ys.length ≤ 1000 then some (.tup (xs ++ ys)) else none
  | .lst xs, .lst ys => if xs.length + ys.length ≤ 1000 then some (.lst (xs ++ ys)) else none
  | _, _ => none
def rAddA (K : PySem.W.Frag) : R2 := fun x y H Q => (rI0 (fun i j => .int (i + j)) x y H Q ∨ rCatA K x y H Q) ∨ rCat x y H Q
theorem op_addA {X : Cx} : OpR X (binaryOp .Add) (rAddA X.K) := (op_add.or op_catA).or op_cat
theorem s_add : OpS tb K (rAddA K) oAdd := by
  intro H ms ex M v u x y z Q m rv ru e q
  unfold oAdd at e
  split at e
  · cases e
    cases rv
    cases ru
    exact .inl (.inl ⟨_, _, rfl, rfl, q H _ (Ext.refl H) m (.int _)⟩)
  · rename_i xs ys
    split at e
    · rename_i hl
      cases e
      cases rv with
      | tup s1 r1 =>
        cases ru with
        | tup s2 r2 =>
          rename_i a vs b us
          refine .inl (.inr ⟨_, _, _, _, rfl, rfl, SqT.of s1, SqT.of s2, ?_, fun e => ?_, fun e1 e2 => ?_, fun e1 e2 p hp => ?_⟩)
          · rw [r1.length, r2.length]
            exact Nat.le_of_lt (small1000 hl)
          · subst e
            cases r1
            exact q H _ (Ext.refl H) m (.tup s2 r2)
          · subst e2
            cases r2
            rw [List.append_nil] at q
            exact q H _ (Ext.refl H) m (.tup s1 r1)
          · obtain ⟨e3, m3, r3⟩ := new_tup m hp (r1.append r2)
            exact q _ _ e3 m3 r3
    · cases e
  · rename_i xs ys
    split at e
    · rename_i hl
      cases e
      cases rv with
      | lst s1 n1 n2 r1 =>
        cases ru with
        | lst s2 n3 n4 r2 =>
          refine .inr ⟨_, _, _, _, rfl, rfl, s1, s2, ?_, fun p hp => ?_⟩
          · rw [r1.length, r2.length]
            exact Nat.le_of_lt (small1000 hl)
          · obtain ⟨e3, m3, r3⟩ := new_lst m hp (r1.append r2)
            exact q _ _ e3 m3 r3
    · cases e
  · cases e
def oI (g : Int → Int → Option D) (_ : MM) : D → D → Option D
  | .int i, .int j => g i j
  | _, _ => none
def oSub := oI fun i j => some (.int (i - j))
theorem s_sub : OpS tb K (rI0 fun i j => .int (i - j)) oSub := by
  intro H ms ex M v u x y z Q m rv ru e q
  unfold oSub oI at e
  split at e
  · cases e
    cases rv
    cases ru
    exact ⟨_, _, rfl, rfl, q H _ (Ext.refl H) m (.int _)⟩
  · cases e
def oMul (_ : MM) : D → D → Option D
  | .int i, .int j => if i.natAbs < 18446744073709551616 ∨ j.natAbs < 18446744073709551616 then some (.int (i * j)) else none
  | .tup (x :: xs), .int k => if 2 ≤ k ∧ k ≤ 1000 ∧ xs.length < 1000 then some (.tup (List.replicate k.toNat (x :: xs)).flatten) else none
  | .lst xs, .int k => if 0 ≤ k ∧ k ≤ 1000 ∧ xs.length ≤ 1000 then some (.lst (List.replicate k.toNat xs).flatten) else none
  | _, _ => none
def rMulA (K : PySem.W.Frag) : R2 := fun x y H Q => (rI CMul (fun i j => .int (i * j)) x y H Q ∨ rRepT K x y H Q) ∨ rRep x y H Q
theorem op_mulA {X : Cx} : OpR X (binaryOp .Mult) (rMulA X.K) := (op_mul.or op_repT).or op_rep
theorem s_mul : OpS tb K (rMulA K) oMul := by
  intro H ms ex M v u x y z Q m rv ru e q
  unfold oMul at e
  split at e
  · split at e
    · rename_i hc
      cases e
      cases rv
      cases ru
      exact .inl (.inl ⟨_, _, rfl, rfl, (by unfold CMul; omega), q H _ (Ext.refl H) m (.int _)⟩)
    · cases e
  · split at e
    · rename_i hc
      cases e
      cases ru
      cases rv with
      | tup s1 r1 =>
        have hl := r1.length
        simp only [List.length_cons] at hl
        refine .inl (.inr ⟨_, _, _, rfl, rfl, SqT.of s1, fun z => ?_, hc.1, hc.2.1, by omega, fun p hp => ?_⟩)
        · rw [z] at hl
          simp at hl
        · obtain ⟨e3, m3, r3⟩ := new_tup m hp (r1.rep _)
          exact q _ _ e3 m3 r3
    · cases e
  · rename_i xs k
    split at e
    · rename_i hc
      cases e
      cases ru
      cases rv with
      | lst s1 n1 n2 r1 =>
        rename_i vs
        have hl := r1.length
        refine .inr ⟨_, _, _, rfl, rfl, s1, by omega, by omega, ?_, fun p hp => ?_⟩
        · have h1 : vs.length * k.toNat ≤ 1000 * 1000 := Nat.mul_le_mul (by omega) (by omega)
          exact Nat.le_trans h1 (by decide)
        · obtain ⟨e3, m3, r3⟩ := new_lst m hp (r1.rep _)
          exact q _ _ e3 m3 r3
    · cases e
  · cases e
def oMod := oI fun i j => if 0 < j then some (.int (i % j)) else none
theorem s_mod : OpS tb K (rI (fun _ j => 0 < j) fun i j => .int (i % j)) oMod := by
  intro H ms ex M v u x y z Q m rv ru e q
  unfold oMod oI at e
  split at e
  · dsimp only at e
    split at e
    · rename_i hc
      cases e
      cases rv
      cases ru
      exact ⟨_, _, rfl, rfl, hc, q H _ (Ext.refl H) m (.int _)⟩
    · cases e
  · cases e
def oDiv := oI fun i j => if 0 < j ∧ j < 1073741824 then some (.int (i / j)) else none
theorem s_div : OpS tb K (rI CDiv fun i j => .int (i / j)) oDiv := by
  intro H ms ex M v u x y z Q m rv ru e q
  unfold oDiv oI at e
  split at e
  · dsimp only at e
    split at e
    · rename_i hc
      cases e
      cases rv
      cases ru
      exact ⟨_, _, rfl, rfl, hc, q H _ (Ext.refl H) m (.int _)⟩
    · cases e
  · cases e
def oPow := oI fun i j => if 0 ≤ j ∧ j ≤ 1000000 ∧ i.natAbs < 2 ^ 64 then some (.int (i ^ j.toNat)) else none
theorem s_pow : OpS tb K (rI CPow fun i j => .int (i ^ j.toNat)) oPow := by
  intro H ms ex M v u x y z Q m rv ru e q
  unfold oPow oI at e
  split at e
  · dsimp only at e
    split at e
    · rename_i hc
      cases e
      cases rv
      cases ru
      exact ⟨_, _, rfl, rfl, hc, q H _ (Ext.refl H) m (.int _)⟩
    · cases e
  · cases e
def oNeg : D → Option D
  | .int i => some (.int (-i))
  | _ => none
theorem s_neg : UnS tb K (rU fun i => .int (-i)) oNeg := by
  intro H ms ex M v x z Q m rv e q
  unfold oNeg at e
  split at e
  · cases e
    cases rv
    exact ⟨_, rfl, q H _ (Ext.refl H) m (.int _)⟩
  · cases e

/-! ### order of ints -/
def oCmp (p : Int → Int → Bool) := oI fun i j => some (.bl (p i j))
theorem s_cmp {p : Int → Int → Bool} : OpS tb K (rI0 fun i j => .bl (p i j)) (oCmp p) := by
  intro H ms ex M v u x y z Q m rv ru e q
  unfold oCmp oI at e
  split at e
  · cases e
    cases rv
    cases ru
    exact ⟨_, _, rfl, rfl, q H _ (Ext.refl H) m (.bl _)⟩
  · cases e
def oLt := oCmp fun i j => decide (i < j)
def oLe := oCmp fun i j => decide (i ≤ j)
def oGt := oCmp fun i j => decide (j < i)
def oGe := oCmp fun i j => decide (j ≤ i)
theorem s_lt : OpS tb K (rI0 fun i j => .bl (decide (i < j))) oLt := s_cmp
theorem s_le : OpS tb K (rI0 fun i j => .bl (decide (i ≤ j))) oLe := s_cmp
theorem s_gt : OpS tb K (rI0 fun i j => .bl (decide (j < i))) oGt := s_cmp
theorem s_ge : OpS tb K (rI0 fun i j => .bl (decide (j ≤ i))) oGe := s_cmp

/-! ### == at any depth -/
mutual
def py : D → PyData
  | .non => .none
  | .bl b => .bool b
  | .int i => .int i
  | .str x => .str x
  | .tup xs => .tuple (pys xs)
  | .lst xs => .list (pys xs)
  | .fz xs => .list (pys xs)
  | .ct xs => .tuple (pys xs)
  | _ => .none
def pys : List D → List PyData
  | [] => []
  | d :: ds => py d :: pys ds
end
mutual
/-- no list in it that may change -/
def pure : D → Bool
  | .mu _ => false
  | .dk _ _ => false
  | .dt _ _ => false
  | .ins _ _ _ => false
  | .tup xs => pures xs
  | .lst xs => pures xs
  | .fz xs => pures xs
  | .ct xs => pures xs
  | _ => true
def pures : List D → Bool
  | [] => true
  | d :: ds => pure d && pures ds
end
mutual
theorem RV.dp : ∀ {v : V} {d : D}, RV K H ms ex v d → pure d = true → Dp K H v (py d)
  | _, _, .non, _ => .non
  | _, _, .bl b, _ => .bl b
  | _, _, .int i, _ => .int i
  | _, _, .str x, _ => .str x
  | _, _, .tup s r, h => .tup (SqT.of s) (RVs.dp r h)
  | _, _, .ct s r, h => .tup s (RVs.dp r h)
  | _, _, .lst s _ _ r, h => .lst (SqL.of s) (RVs.dp r h)
  | _, _, .fz s r, h => .lst s.sq (RVs.dp r h)
  | _, _, .mu _, h => by cases h
  | _, _, .dk _ _ _ _ _, h => by cases h
  | _, _, .dt _ _ _ _ _, h => by cases h
  | _, _, .ins _ _ _ _ _, h => by cases h
theorem RVs.dp : ∀ {v : List V} {d : List D}, RVs K H ms ex v d → pures d = true → DpAll K H v (pys d)
  | _, _, .nil, _ => .nil
  | _, _, .cons a b, h => .cons (RV.dp a (Bool.and_eq_true_iff.mp h).1) (RVs.dp b (Bool.and_eq_true_iff.mp h).2)
end
def okD (d : D) : Bool := pure d && SeqAt.shaped (py d)
def oEqv (d e : D) : Bool := PyData.eqv (py d) (py e)
def oEq (_ : MM) : D → D → Option D
  | .int i, .int j => some (.bl (i == j))
  | .str i, .str j => some (.bl (i == j))
  | .bl i, .bl j => some (.bl (i == j))
  | x, y => if okD x && okD y then some (.bl (oEqv x y)) else none
def oNe (M : MM) (x y : D) : Option D := match oEq M x y with
  | some (.bl b) => some (.bl (!b))
  | _ => none
def rEqA (K : PySem.W.Frag) : R2 := fun x y H Q => rEq x y H Q ∨ rEqD K x y H Q
def rNeA (K : PySem.W.Frag) : R2 := fun x y H Q => rNe x y H Q ∨ rNeD K x y H Q
theorem op_eqA {X : Cx} (hu : X.A.units + 64 < cLine) : OpR X (compareOp .Eq) (rEqA X.K) := op_eq.or (op_eqD hu)
theorem op_neA {X : Cx} (hu : X.A.units + 64 < cLine) : OpR X (compareOp .NotEq) (rNeA X.K) := op_ne.or (op_neD hu)
theorem oEq_cases {v u : V} {x y z : D} (m : RM tb K H ms ex M) (rv : RV K H ms ex v x) (ru : RV K H ms ex u y) (e : oEq M x y = some z) :
    ∃ b, z = .bl b ∧ ((scal v u = true ∧ decide (v = u) = b) ∨ ∃ d e', Dp K H v d ∧ Dp K H u e' ∧ SeqAt.shaped d = true ∧ SeqAt.shaped e' = true ∧ PyData.eqv d e' = b) := by
  unfold oEq at e
  split at e
  · cases e
    cases rv
    cases ru
    exact ⟨_, rfl, .inl ⟨rfl, dec_int⟩⟩
  · cases e
    cases rv
    cases ru
    exact ⟨_, rfl, .inl ⟨rfl, dec_str⟩⟩
  · cases e
    cases rv
    cases ru
    exact ⟨_, rfl, .inl ⟨rfl, dec_bl⟩⟩
  · split at e
    · rename_i h
      cases e
      obtain ⟨h1, h2⟩ := Bool.and_eq_true_iff.mp h
      obtain ⟨a1, a2⟩ := Bool.and_eq_true_iff.mp h1
      obtain ⟨b1, b2⟩ := Bool.and_eq_true_iff.mp h2
      exact ⟨_, rfl, .inr ⟨_, _, rv.dp a1, ru.dp b1, a2, b2, rfl⟩⟩
    · cases e
theorem s_eq : OpS tb K (rEqA K) oEq := by
  intro H ms ex M v u x y z Q m rv ru e q
  obtain ⟨b, rfl, h⟩ := oEq_cases m rv ru e
  have q' := q H (.bl b) (Ext.refl H) m (.bl b)
  rcases h with ⟨h1, h2⟩ | ⟨d, e', h1, h2, h3, h4, h5⟩
  · exact .inl ⟨h1, by rw [h2]; exact q'⟩
  · exact .inr ⟨d, e', h1, h2, h3, h4, by rw [h5]; exact q'⟩
theorem s_ne : OpS tb K (rNeA K) oNe := by
  intro H ms ex M v u x y z Q m rv ru e q
  unfold oNe at e
  split at e
  · rename_i b e0
    cases e
    obtain ⟨b', hb, h⟩ := oEq_cases m rv ru e0
    cases hb
    have q' := q H (.bl (!b)) (Ext.refl H) m (.bl _)
    rcases h with ⟨h1, h2⟩ | ⟨d, e', h1, h2, h3, h4, h5⟩
    · exact .inl ⟨h1, by rw [h2]; exact q'⟩
    · exact .inr ⟨d, e', h1, h2, h3, h4, by rw [h5]; exact q'⟩
  · cases e

/-! ### in -/
theorem plain_sh {d : PyData} (h : SeqAt.shaped d = true) : d.plain = true := PyData.plain_of_canLay0 d (SeqAt.canLay_of_shaped h)
def rInT (K : PySem.W.Frag) : R2 := fun x y H Q => ∃ d ds, Dp K H x d ∧ Dp K H y (.tuple ds) ∧ SeqAt.shaped d = true ∧ SeqAt.shaped (.tuple ds) = true ∧ Q (.bl (ds.any fun z => PyData.eqv z d)) H
def rNotInT (K : PySem.W.Frag) : R2 := fun x y H Q => ∃ d ds, Dp K H x d ∧ Dp K H y (.tuple ds) ∧ SeqAt.shaped d = true ∧ SeqAt.shaped (.tuple ds) = true ∧ Q (.bl (!ds.any fun z => PyData.eqv z d)) H
theorem op_inT {X : Cx} (hu : X.A.units + 65 < cLine) : OpR X (compareOp .In) (rInT X.K) := by
  intro pins s σ H x y v u Q I rx ry h
  obtain ⟨d, ds, hd, he, sd, se, q⟩ := h
  obtain ⟨as, r1⟩ := Dp.reads I d x v hd rx
  obtain ⟨bs, r2⟩ := Dp.reads I (.tuple ds) y u he ry
  exact SeqAt.in_tuple_data r2 r1 (PyData.plainAll_of_canLay0 ds (SeqAt.canLay_of_shaped se)) (plain_sh sd) (room_in_shaped sd hu) ⟨.bl _, H, I, rfl, q⟩
theorem op_notInT {X : Cx} (hu : X.A.units + 65 < cLine) : OpR X (compareOp .NotIn) (rNotInT X.K) := by
  intro pins s σ H x y v u Q I rx ry h
  obtain ⟨d, ds, hd, he, sd, se, q⟩ := h
  obtain ⟨as, r1⟩ := Dp.reads I d x v hd rx
  obtain ⟨bs, r2⟩ := Dp.reads I (.tuple ds) y u he ry
  exact SeqAt.notIn_tuple_data r2 r1 (PyData.plainAll_of_canLay0 ds (SeqAt.canLay_of_shaped se)) (plain_sh sd) (room_in_shaped sd hu) ⟨.bl _, H, I, rfl, q⟩
def anyEq (d : D) : List D → Bool
  | [] => false
  | z :: zs => oEqv z d || anyEq d zs
theorem anyEq_eq (d : D) : ∀ ds : List D, ((pys ds).any fun z => PyData.eqv z (py d)) = anyEq d ds
  | [] => rfl
  | z :: zs => by
    show (PyData.eqv (py z) (py d) || (pys zs).any fun z => PyData.eqv z (py d)) = (oEqv z d || anyEq d zs)
    rw [anyEq_eq d zs]
    rfl
def oIn (_ : MM) (x : D) : D → Option D
  | .tup ys => if okD x && okD (.tup ys) then some (.bl (anyEq x ys)) else none
  | .ct ys => if okD x && okD (.ct ys) then some (.bl (anyEq x ys)) else none
  | .lst ys => if okD x && okD (.lst ys) then some (.bl (anyEq x ys)) else none
  | _ => none
def oNotIn (M : MM) (x y : D) : Option D := match oIn M x y with
  | some (.bl b) => some (.bl (!b))
  | _ => none
def rInA (K : PySem.W.Frag) : R2 := fun x y H Q => rInT K x y H Q ∨ rInD K x y H Q
def rNotInA (K : PySem.W.Frag) : R2 := fun x y H Q => rNotInT K x y H Q ∨ rNotInD K x y H Q
theorem op_inA {X : Cx} (hu : X.A.units + 65 < cLine) : OpR X (compareOp .In) (rInA X.K) := (op_inT hu).or (op_inD hu)
theorem op_notInA {X : Cx} (hu : X.A.units + 65 < cLine) : OpR X (compareOp .NotIn) (rNotInA X.K) := (op_notInT hu).or (op_notInD hu)
theorem s_in : OpS tb K (rInA K) oIn := by
  intro H ms ex M v u x y z Q m rv ru e q
  unfold oIn at e
  split at e <;> try split at e
  · rename_i ys h
    cases e
    obtain ⟨h1, h2⟩ := Bool.and_eq_true_iff.mp h
    obtain ⟨a1, a2⟩ := Bool.and_eq_true_iff.mp h1
    obtain ⟨b1, b2⟩ := Bool.and_eq_true_iff.mp h2
    exact .inl ⟨_, _, rv.dp a1, ru.dp b1, a2, b2, by rw [anyEq_eq]; exact q H _ (Ext.refl H) m (.bl _)⟩
  · cases e
  · rename_i ys h
    cases e
    obtain ⟨h1, h2⟩ := Bool.and_eq_true_iff.mp h
    obtain ⟨a1, a2⟩ := Bool.and_eq_true_iff.mp h1
    obtain ⟨b1, b2⟩ := Bool.and_eq_true_iff.mp h2
    exact .inl ⟨_, _, rv.dp a1, ru.dp b1, a2, b2, by rw [anyEq_eq]; exact q H _ (Ext.refl H) m (.bl _)⟩
  · cases e
  · rename_i ys h
    cases e
    obtain ⟨h1, h2⟩ := Bool.and_eq_true_iff.mp h
    obtain ⟨a1, a2⟩ := Bool.and_eq_true_iff.mp h1
    obtain ⟨b1, b2⟩ := Bool.and_eq_true_iff.mp h2
    exact .inr ⟨_, _, rv.dp a1, ru.dp b1, a2, b2, by rw [anyEq_eq]; exact q H _ (Ext.refl H) m (.bl _)⟩
  · cases e
  · cases e
theorem s_notIn : OpS tb K (rNotInA K) oNotIn := by
  intro H ms ex M v u x y z Q m rv ru e q
  unfold oNotIn oIn at e
  split at e
  · rename_i b e0
    cases e
    split at e0 <;> try split at e0
    · rename_i ys h
      cases e0
      obtain ⟨h1, h2⟩ := Bool.and_eq_true_iff.mp h
      obtain ⟨a1, a2⟩ := Bool.and_eq_true_iff.mp h1
      obtain ⟨b1, b2⟩ := Bool.and_eq_true_iff.mp h2
      exact .inl ⟨_, _, rv.dp a1, ru.dp b1, a2, b2, by rw [anyEq_eq]; exact q H _ (Ext.refl H) m (.bl _)⟩
    · cases e0
    · rename_i ys h
      cases e0
      obtain ⟨h1, h2⟩ := Bool.and_eq_true_iff.mp h
      obtain ⟨a1, a2⟩ := Bool.and_eq_true_iff.mp h1
      obtain ⟨b1, b2⟩ := Bool.and_eq_true_iff.mp h2
      exact .inl ⟨_, _, rv.dp a1, ru.dp b1, a2, b2, by rw [anyEq_eq]; exact q H _ (Ext.refl H) m (.bl _)⟩
    · cases e0
    · rename_i ys h
      cases e0
      obtain ⟨h1, h2⟩ := Bool.and_eq_true_iff.mp h
      obtain ⟨a1, a2⟩ := Bool.and_eq_true_iff.mp h1
      obtain ⟨b1, b2⟩ := Bool.and_eq_true_iff.mp h2
      exact .inr ⟨_, _, rv.dp a1, ru.dp b1, a2, b2, by rw [anyEq_eq]; exact q H _ (Ext.refl H) m (.bl _)⟩
    · cases e0
    · cases e0
  · cases e

/-! ### is -/
def isNon : D → Bool
  | .non => true
  | _ => false
theorem RV.isNon {v : V} {d : D} (h : RV K H ms ex v d) : decide (v = .non) = isNon d := by cases h <;> rfl
def oIs (_ : MM) : D → D → Option D
  | x, .non => some (.bl (isNon x))
  | .bl a, .bl b => some (.bl (a == b))
  | _, _ => none
def oIsNot (M : MM) (x y : D) : Option D := match oIs M x y with
  | some (.bl b) => some (.bl (!b))
  | _ => none
def rIsA : R2 := fun x y H Q => (y = .non ∧ Q (.bl (decide (x = .non))) H) ∨ rIsB x y H Q
def rIsNotA : R2 := fun x y H Q => (y = .non ∧ Q (.bl (!decide (x = .non))) H) ∨ rNotB x y H Q
theorem op_isA {X : Cx} : OpR X (compareOp .Is) rIsA := op_isN.or op_isBl
theorem op_isNotA {X : Cx} : OpR X (compareOp .IsNot) rIsNotA := op_notN.or op_notBl
theorem s_is : OpS tb K rIsA oIs := by
  intro H ms ex M v u x y z Q m rv ru e q
  unfold oIs at e
  split at e
  · cases e
    cases ru
    exact .inl ⟨rfl, by rw [rv.isNon]; exact q H _ (Ext.refl H) m (.bl _)⟩
  · cases e
    cases ru
    cases rv
    exact .inr ⟨_, _, rfl, rfl, by rw [Bool.beq_eq_decide_eq] at q; exact q H _ (Ext.refl H) m (.bl _)⟩
  · cases e
theorem s_isNot : OpS tb K rIsNotA oIsNot := by
  intro H ms ex M v u x y z Q m rv ru e q
  unfold oIsNot at e
  split at e
  · rename_i b e0
    cases e
    unfold oIs at e0
    split at e0
    · cases e0
      cases ru
      exact .inl ⟨rfl, by rw [rv.isNon]; exact q H _ (Ext.refl H) m (.bl _)⟩
    · cases e0
      cases ru
      cases rv
      exact .inr ⟨_, _, rfl, rfl, by rw [Bool.beq_eq_decide_eq] at q; exact q H _ (Ext.refl H) m (.bl _)⟩
    · cases e0
  · cases e

/-! ### items, slices -/
def oIx (M : MM) : D → D → Option D
  | .tup xs, .int i => atI xs i
  | .ct xs, .int i => atI xs i
  | .lst xs, .int i => atI xs i
  | .mu n, .int i => match M[n]? with
    | some (.lst xs) => atI xs i
    | _ => none
  | _, _ => none
theorem RVs.atI {vs : List V} {ds : List D} {i : Int} {d : D} (r : RVs K H ms ex vs ds) (e : L2.atI ds i = some d) : ∃ v, L2.atI vs i = some v ∧ RV K H ms ex v d := by
  unfold L2.atI at e ⊢
  rw [r.length]
  cases h : ixN ds.length i with
  | none => rw [h] at e; cases e
  | some j =>
    rw [h] at e
    exact r.get e
def rIxA (K : PySem.W.Frag) : R2 := fun x y H Q => rIxL K x y H Q ∨ rIxT K x y H Q
theorem ix_A {X : Cx} : IxR X (rIxA X.K) := ix_list.or ix_tup
theorem s_ix : OpS tb K (rIxA K) oIx := by
  intro H ms ex M v u x y z Q m rv ru e q
  unfold oIx at e
  split at e
  · cases ru
    cases rv with
    | tup s r =>
      obtain ⟨w, h1, h2⟩ := r.atI e
      exact .inr ⟨_, _, _, _, rfl, rfl, SqT.of s, h1, q H _ (Ext.refl H) m h2⟩
  · cases ru
    cases rv with
    | ct s r =>
      obtain ⟨w, h1, h2⟩ := r.atI e
      exact .inr ⟨_, _, _, _, rfl, rfl, s, h1, q H _ (Ext.refl H) m h2⟩
  · cases ru
    cases rv with
    | lst s n1 n2 r =>
      obtain ⟨w, h1, h2⟩ := r.atI e
      exact .inl ⟨_, _, _, _, rfl, rfl, SqL.of s, h1, q H _ (Ext.refl H) m h2⟩
  · rename_i n i
    cases ru
    cases rv with
    | mu e1 =>
      split at e
      · rename_i xs h
        cases m.at_ _ _ _ e1 h with
        | lst s r =>
          obtain ⟨w, h1, h2⟩ := r.atI e
          exact .inl ⟨_, _, _, _, rfl, rfl, SqL.of s, h1, q H _ (Ext.refl H) m h2⟩
      · cases e
  · cases e

abbrev FO := En → MM → Option (Option Int × MM)
def oM (tb : List Addr) (K : PySem.W.Frag) (f : FO) : TO := fun σ H Q => ∃ ms ex r M d M', RM tb K H ms ex M ∧ Sl K H ms ex σ r ∧ f r M = some (d, M') ∧ ∀ H', Ext ms H H' → RM tb K H' ms ex M' → Q d H'
def mNo : FO := fun _ M => some (none, M)
def mPart (f : FE) : FO := fun r M => match f r M with
  | some (.int i, M1) => some (some i, M1)
  | _ => none
def cutD (xs : List D) (lo hi : Option Int) : List D := (xs.drop (HT.sIx xs.length 0 lo)).take (HT.sIx xs.length xs.length hi - HT.sIx xs.length 0 lo)
theorem RVs.cut {vs : List V} {ds : List D} (r : RVs K H ms ex vs ds) (lo hi : Option Int) : RVs K H ms ex (cutV vs lo hi) (cutD ds lo hi) := by
  unfold cutV cutD
  rw [r.length]
  exact (r.drop _).take _
def oSl (M : MM) (x : D) (lo hi : Option Int) : Option D := match x with
  | .tup xs => some (.tup (cutD xs lo hi))
  | .lst xs => some (.lst (cutD xs lo hi))
  | _ => none
def mSl (f : FE) (g h : FO) : FE := fun r M => match f r M with
  | some (x, M1) => match g r M1 with
    | some (lo, M2) => match h r M2 with
      | some (hi, M3) => match oSl M3 x lo hi with
        | some z => some (z, M3)
        | none => none
      | none => none
    | none => none
  | none => none
section
variable {X : Cx} {pos p2 : Pos} {a b c : Expr} {lo hi : Option Expr} {es : List Expr} {f g h : FE} {fa : FA} {fl fh : FO}
theorem oM.use {σ : L2.St} {r : En} {f : FO} {d : Option Int} {Q : Option Int → Hp → Prop} (m : RM tb K H ms ex M) (s : Sl K H ms ex σ r) (e : f r M = some (d, M'))
    (q : ∀ H', Ext ms H H' → RM tb K H' ms ex M' → Sl K H' ms ex σ r → Q d H') : oM tb K f σ H Q :=
  ⟨ms, ex, r, M, d, M', m, s, e, fun H' x m' => q H' x m' (s.ext m x)⟩
theorem _root_.L2.PO.weak {e : Option Expr} {t t' : TO} (h : PO X e t) (k : ∀ σ H Q, t' σ H Q → t σ H Q) : PO X e t' := ⟨fun pins s σ H Q I q => h.run pins s σ H Q I (k σ H Q q)⟩
theorem mo_no : PO X none (oM tb X.K mNo) := po_none.weak fun σ H Q h => by
  obtain ⟨ms, ex, r, M, d', M', m, s, e, q⟩ := h
  cases e
  exact q H (Ext.refl H) m
theorem mo_some (h : PE X a (eM tb X.K f)) : PO X (some a) (oM tb X.K (mPart f)) := (po_some h).weak fun σ H Q h => by
  obtain ⟨ms, ex, r, M, d', M', m, s, e, q⟩ := h
  unfold mPart at e
  split at e
  · rename_i h1
    cases e
    refine eM.use m s h1 fun H1 v1 x1 m1 s1 r1 => ?_
    cases r1
    exact ⟨_, rfl, q H1 x1 m1⟩
  · cases e
def rSlB (K : PySem.W.Frag) : V → Option Int → Option Int → Hp → VK → Prop := fun x lo hi H Q => rSlA K x lo hi H Q ∨ rSlL K x lo hi H Q
theorem sl_B : SlR X (rSlB X.K) := sl_tupA.or sl_list
theorem cut_whole {xs : List V} {lo hi : Option Int} (h : HT.sIx xs.length 0 lo = 0 ∧ HT.sIx xs.length xs.length hi = xs.length) : cutV xs lo hi = xs := by
  unfold cutV
  rw [h.1, h.2]
  simp
theorem me_sl (he : PE X a (eM tb X.K f)) (hl : PO X lo (oM tb X.K fl)) (hu : PO X hi (oM tb X.K fh)) : PE X (.Subscript a (.Slice lo hi none p2) pos) (eM tb X.K (mSl f fl fh)) :=
  (pe_slice sl_B he hl hu).weak fun σ H Q h => by
    obtain ⟨ms, ex, r, M, d', M', m, s, e, q⟩ := h
    unfold mSl at e
    split at e
    · rename_i x M1 h1
      split at e
      · rename_i l M2 h2
        split at e
        · rename_i u M3 h3
          split at e
          · rename_i z h4
            cases e
            refine eM.use m s h1 fun H1 v1 x1 m1 s1 r1 => ?_
            refine oM.use m1 s1 h2 fun H2 x2 m2 s2 => ?_
            refine oM.use m2 s2 h3 fun H3 x3 m3 s3 => ?_
            have r3 := (r1.ext m1 x2).ext m2 x3
            have x13 := (x1.trans x2).trans x3
            unfold oSl at h4
            split at h4
            · cases h4
              cases r3 with
              | tup sq rr =>
                rename_i vs
                refine .inl ⟨_, _, rfl, SqT.of sq, fun w => ?_, fun w p hp => ?_⟩
                · refine q H3 _ x13 m3 (.tup sq ?_)
                  have := rr.cut l u
                  rw [cut_whole w] at this
                  exact this
                · obtain ⟨e3, m4, r4⟩ := new_tup m3 hp (rr.cut l u)
                  exact q _ _ (x13.trans e3) m4 r4
            · cases h4
              cases r3 with
              | lst sq n1 n2 rr =>
                refine .inr ⟨_, _, rfl, SqL.of sq, fun p hp => ?_⟩
                obtain ⟨e3, m4, r4⟩ := new_lst m3 hp (rr.cut l u)
                exact q _ _ (x13.trans e3) m4 r4
            · cases h4
          · cases e
        · cases e
      · cases e
    · cases e

/-! ### built-in functions -/
theorem mt_fn {r : List V → Hp → VK → Prop} {o : MM → List D → Option D} (hs : CallS tb K r o) {σ : L2.St} {Q : VK} (h : eM tb K (mFn o fa) σ H Q) : tCB r (aM tb K fa) σ H Q := by
  obtain ⟨ms, ex, r, M, d', M', m, s, e, q⟩ := h
  unfold mFn at e
  split at e
  · rename_i ds M1 h1
    split at e
    · rename_i z h2
      cases e
      refine aM.use m s h1 fun H1 v1 x1 m1 s1 r1 => ?_
      exact hs H1 ms ex _ v1 ds _ Q m1 r1 h2 fun H2 v2 x2 m2 r2 => q H2 v2 (x1.trans x2) m2 r2
    · cases e
  · cases e
theorem me_fn {x : Str} {p : Pos} {id : String} {r : List V → Hp → VK → Prop} {o : MM → List D → Option D} (hc : CallR X (.builtin id) r) (hs : CallS tb X.K r o) (hg : Gl X x) (hm : X.mg x = none) (hv : bootBuiltins x = some (.builtin id)) (ha : PA X (a :: es) (aM tb X.K fa))
    (hn : x ≠ "__name__" := by decide) (hdb : (x == ("__debug__" : Str)) = false := by decide)
    (he : starEach (a :: es) X.env = (false, eval a X.env) :: starEach es X.env := by rfl) (hpl : (backTo pos (starEach es X.env)).any (·.1) = false := by rfl) : PE X (.Call (.Name x p) (a :: es) [] pos) (eM tb X.K (mFn o fa)) :=
  (pe_callB hc hg hm hv ha hn hdb he hpl).weak fun _ _ _ h => mt_fn hs h
theorem me_ty {x : Str} {p : Pos} {T : String} {r : List V → Hp → VK → Prop} {o : MM → List D → Option D} (hc : CallR X (.type T) r) (hs : CallS tb X.K r o) (hg : Gl X x) (hm : X.mg x = none) (hv : bootBuiltins x = some (.type T)) (ha : PA X (a :: es) (aM tb X.K fa))
    (hn : x ≠ "__name__" := by decide) (hdb : (x == ("__debug__" : Str)) = false := by decide)
    (he : starEach (a :: es) X.env = (false, eval a X.env) :: starEach es X.env := by rfl) (hpl : (backTo pos (starEach es X.env)).any (·.1) = false := by rfl) : PE X (.Call (.Name x p) (a :: es) [] pos) (eM tb X.K (mFn o fa)) :=
  (pe_callTy hc hg hm hv ha hn hdb he hpl).weak fun _ _ _ h => mt_fn hs h
def oLen (M : MM) : List D → Option D
  | [.tup xs] => some (.int xs.length)
  | [.ct xs] => some (.int xs.length)
  | [.lst xs] => some (.int xs.length)
  | [.mu n] => match M[n]? with
    | some (.lst xs) => some (.int xs.length)
    | _ => none
  | _ => none
theorem s_len : CallS tb K (fun xs H Q => ∃ p ys, xs = [.ref p] ∧ (SqL K H p ys ∨ SqT K H p ys) ∧ Q (.int ys.length) H) oLen := by
  intro H ms ex M v x z Q m rv e q
  unfold oLen at e
  split at e
  · cases e
    cases rv with
    | cons a b =>
      cases b
      cases a with
      | tup s r => exact ⟨_, _, rfl, .inr (SqT.of s), by rw [r.length]; exact q H _ (Ext.refl H) m (.int _)⟩
  · cases e
    cases rv with
    | cons a b =>
      cases b
      cases a with
      | ct s r => exact ⟨_, _, rfl, .inr s, by rw [r.length]; exact q H _ (Ext.refl H) m (.int _)⟩
  · cases e
    cases rv with
    | cons a b =>
      cases b
      cases a with
      | lst s n1 n2 r => exact ⟨_, _, rfl, .inl (SqL.of s), by rw [r.length]; exact q H _ (Ext.refl H) m (.int _)⟩
  · split at e
    · rename_i h
      cases e
      cases rv with
      | cons a b =>
        cases b
        cases a with
        | mu e1 =>
          cases m.at_ _ _ _ e1 h with
          | lst s r => exact ⟨_, _, rfl, .inl (SqL.of s), by rw [r.length]; exact q H _ (Ext.refl H) m (.int _)⟩
    · cases e
  · cases e
def oTuple (M : MM) : List D → Option D
  | [.tup xs] => some (.tup xs)
  | [.lst xs] => some (.tup xs)
  | [.mu n] => match M[n]? with
    | some (.lst xs) => some (.tup xs)
    | _ => none
  | _ => none
theorem s_tuple : CallS tb K (fun xs H Q => ∃ p ys, xs = [.ref p] ∧ ((SqL K H p ys ∧ ∀ l, H l = none → Q (.ref l) (upd H l (.tup ys))) ∨ (SqT K H p ys ∧ Q (.ref p) H))) oTuple := by
  intro H ms ex M v x z Q m rv e q
  unfold oTuple at e
  split at e
  · cases e
    cases rv with
    | cons a b =>
      cases b
      cases a with
      | tup s r => exact ⟨_, _, rfl, .inr ⟨SqT.of s, q H _ (Ext.refl H) m (.tup s r)⟩⟩
  · cases e
    cases rv with
    | cons a b =>
      cases b
      cases a with
      | lst s n1 n2 r =>
        refine ⟨_, _, rfl, .inl ⟨SqL.of s, fun p hp => ?_⟩⟩
        obtain ⟨e3, m4, r4⟩ := new_tup m hp r
        exact q _ _ e3 m4 r4
  · rename_i n
    split at e
    · rename_i xs h1
      cases e
      cases rv with
      | cons a b =>
        cases b
        cases a with
        | mu e0 =>
          cases m.at_ _ _ _ e0 h1 with
          | lst s r =>
            refine ⟨_, _, rfl, .inl ⟨SqL.of s, fun p hp => ?_⟩⟩
            obtain ⟨e3, m4, r4⟩ := new_tup m hp r
            exact q _ _ e3 m4 r4
    · cases e
  · cases e
def oList (M : MM) : List D → Option D
  | [.tup xs] => some (.lst xs)
  | [.lst xs] => some (.lst xs)
  | [.fz xs] => some (.lst xs)
  | _ => none
theorem s_list : CallS tb K (fun xs H Q => ∃ p ys, xs = [.ref p] ∧ (SqL K H p ys ∨ SqT K H p ys) ∧ ∀ l, H l = none → Q (.ref l) (upd H l (.lst ys))) oList := by
  intro H ms ex M v x z Q m rv e q
  unfold oList at e
  split at e
  · cases e
    cases rv with
    | cons a b =>
      cases b
      cases a with
      | tup s r =>
        refine ⟨_, _, rfl, .inr (SqT.of s), fun p hp => ?_⟩
        obtain ⟨e3, m4, r4⟩ := new_lst m hp r
        exact q _ _ e3 m4 r4
  · cases e
    cases rv with
    | cons a b =>
      cases b
      cases a with
      | lst s n1 n2 r =>
        refine ⟨_, _, rfl, .inl (SqL.of s), fun p hp => ?_⟩
        obtain ⟨e3, m4, r4⟩ := new_lst m hp r
        exact q _ _ e3 m4 r4
  · cases e
    cases rv with
    | cons a b =>
      cases b
      cases a with
      | fz s r =>
        refine ⟨_, _, rfl, .inl s.sq, fun p hp => ?_⟩
        obtain ⟨e3, m4, r4⟩ := new_lst m hp r
        exact q _ _ e3 m4 r4
  · cases e
def boolsOf : List D → Option (List Bool)
  | [] => some []
  | .bl b :: ds => match boolsOf ds with
    | some bs => some (b :: bs)
    | none => none
  | _ => none
theorem boolsOf_eq : ∀ {ds : List D} {bs : List Bool}, boolsOf ds = some bs → ds = bs.map D.bl
  | [], bs, h => by cases h; rfl
  | .bl b :: ds, bs, h => by
    unfold boolsOf at h
    split at h
    · rename_i bs' h1
      cases h
      rw [boolsOf_eq h1]
      rfl
    · cases h
  | .non :: _, _, h => by cases h
  | .int _ :: _, _, h => by cases h
  | .str _ :: _, _, h => by cases h
  | .tup _ :: _, _, h => by cases h
  | .lst _ :: _, _, h => by cases h
  | .mu _ :: _, _, h => by cases h
  | .fz _ :: _, _, h => by cases h
def intsOf : List D → Option (List Int)
  | [] => some []
  | .int b :: ds => match intsOf ds with
    | some bs => some (b :: bs)
    | none => none
  | _ => none
theorem intsOf_eq : ∀ {ds : List D} {bs : List Int}, intsOf ds = some bs → ds = bs.map D.int
  | [], bs, h => by cases h; rfl
  | .int b :: ds, bs, h => by
    unfold intsOf at h
    split at h
    · rename_i bs' h1
      cases h
      rw [intsOf_eq h1]
      rfl
    · cases h
  | .non :: _, _, h => by cases h
  | .bl _ :: _, _, h => by cases h
  | .str _ :: _, _, h => by cases h
  | .tup _ :: _, _, h => by cases h
  | .lst _ :: _, _, h => by cases h
  | .mu _ :: _, _, h => by cases h
  | .fz _ :: _, _, h => by cases h
def oAll (M : MM) : List D → Option D
  | [.lst xs] => match boolsOf xs with
    | some bs => some (.bl (bs.all id))
    | none => none
  | _ => none
theorem s_all : CallS tb K (rAll K) oAll := by
  intro H ms ex M v x z Q m rv e q
  unfold oAll at e
  split at e
  · split at e
    · rename_i bs hb
      cases e
      cases rv with
      | cons a b =>
        cases b
        cases a with
        | lst s n1 n2 r =>
          rw [boolsOf_eq hb] at r
          rw [r.bools] at s
          exact ⟨_, _, rfl, SqL.of s, q H _ (Ext.refl H) m (.bl _)⟩
    · cases e
  · cases e
def maxL : Int → List Int → Int
  | x, [] => x
  | x, y :: ys => maxL (if y > x then y else x) ys
theorem maxL_ge : ∀ (ys : List Int) (x : Int), x ≤ maxL x ys ∧ (∀ y ∈ ys, y ≤ maxL x ys) ∧ (maxL x ys = x ∨ maxL x ys ∈ ys)
  | [], x => ⟨Int.le_refl _, fun _ h => absurd h (by simp), Or.inl rfl⟩
  | y :: ys, x => by
    unfold maxL
    obtain ⟨h1, h2, h3⟩ := maxL_ge ys (if y > x then y else x)
    refine ⟨?_, fun z hz => ?_, ?_⟩
    · split at h1 <;> rename_i h <;> simp only [h, if_true, if_false] <;> omega
    · rcases List.mem_cons.mp hz with e | hz
      · subst e
        split at h1 <;> rename_i h <;> simp only [h, if_true, if_false] <;> omega
      · exact h2 z hz
    · rcases h3 with h3 | h3
      · by_cases h : y > x
        · rw [h3, if_pos h]
          exact .inr List.mem_cons_self
        · rw [h3, if_neg h]
          exact .inl rfl
      · exact .inr (List.mem_cons_of_mem _ h3)
def oMax (M : MM) : List D → Option D
  | [.lst xs] => match intsOf xs with
    | some (i :: is) => some (.int (maxL i is))
    | _ => none
  | [.int i, .int j] => some (.int (if j > i then j else i))
  | [.int i, .int j, .int k] => some (.int (if k > (if j > i then j else i) then k else (if j > i then j else i)))
  | _ => none
def rMaxA (K : PySem.W.Frag) : List V → Hp → VK → Prop := fun xs H Q => (rMax K xs H Q ∨ ∃ i j, xs = [.int i, .int j] ∧ Q (.int (if j > i then j else i)) H) ∨ rNuC3 nuMax3 xs H Q
theorem call_maxA (hc : X.calm = true) : CallR X (.builtin "max") (rMaxA X.K) := ((cr_max hc).or (call_max2 hc)).or (call_max3Nu hc)
theorem s_max : CallS tb K (rMaxA K) oMax := by
  intro H ms ex M v x z Q m rv e q
  unfold oMax at e
  split at e
  · split at e
    · rename_i i is hb
      cases e
      cases rv with
      | cons a b =>
        cases b
        cases a with
        | lst s n1 n2 r =>
          rw [intsOf_eq hb] at r
          rw [r.ints] at s
          refine .inl (.inl ⟨_, i :: is, rfl, SqL.of s, by simp, fun mm h1 h2 => ?_⟩)
          have e : mm = maxL i is := by
            obtain ⟨g1, g2, g3⟩ := maxL_ge is i
            have a1 : maxL i is ≤ mm := by
              rcases g3 with g3 | g3
              · rw [g3]
                exact h2 _ List.mem_cons_self
              · exact h2 _ (List.mem_cons_of_mem _ g3)
            have a2 : mm ≤ maxL i is := by
              rcases List.mem_cons.mp h1 with h1 | h1
              · rw [h1]
                exact g1
              · exact g2 _ h1
            omega
          rw [e]
          exact q H _ (Ext.refl H) m (.int _)
    · cases e
  · cases e
    cases rv with
    | cons a b =>
      cases b with
      | cons b c =>
        cases c
        cases a
        cases b
        exact .inl (.inr ⟨_, _, rfl, q H _ (Ext.refl H) m (.int _)⟩)
  · rename_i i j k
    cases e
    cases rv with
    | cons a b =>
      cases b with
      | cons b c =>
        cases c with
        | cons c d =>
          cases d
          cases a
          cases b
          cases c
          refine .inr ⟨_, _, _, _, rfl, ?_, q H _ (Ext.refl H) m (.int _)⟩
          have h0 : ∀ a b : Int, nuMax2 (.int a) (.int b) = some (.int (if b > a then b else a)) := fun a b => by
            unfold nuMax2
            show some (if decide (a < b) = true then V.int b else V.int a) = _
            by_cases h : a < b
            · rw [if_pos (decide_eq_true h), if_pos h]
            · rw [if_neg (by simp [h]), if_neg h]
          unfold nuMax3
          rw [h0]
          show nuMax2 _ _ = _
          rw [h0]
  · cases e
def oAbs (M : MM) : List D → Option D
  | [.int i] => some (.int (if i < 0 then -i else i))
  | _ => none
theorem s_abs : CallS tb K (fun xs H Q => ∃ i, xs = [.int i] ∧ Q (.int (if i < 0 then -i else i)) H) oAbs := by
  intro H ms ex M v x z Q m rv e q
  unfold oAbs at e
  split at e
  · cases e
    cases rv with
    | cons a b =>
      cases b
      cases a
      exact ⟨_, rfl, q H _ (Ext.refl H) m (.int _)⟩
  · cases e
def oInt (M : MM) : List D → Option D
  | [.int i] => some (.int i)
  | _ => none
theorem s_int : CallS tb K (fun xs H Q => (∃ i, xs = [.int i] ∧ Q (.int i) H) ∨ ∃ k, xs = [.bl k] ∧ Q (.int (if k then 1 else 0)) H) oInt := by
  intro H ms ex M v x z Q m rv e q
  unfold oInt at e
  split at e
  · cases e
    cases rv with
    | cons a b =>
      cases b
      cases a
      exact .inl ⟨_, rfl, q H _ (Ext.refl H) m (.int _)⟩
  · cases e

/-! ### isinstance -/
def tyN : D → String
  | .non => "NoneType"
  | .bl _ => "bool"
  | .int _ => "int"
  | .str _ => "str"
  | .tup _ => "tuple"
  | .ct _ => "tuple"
  | .lst _ => "list"
  | .fz _ => "list"
  | _ => "dict"
/-- its sort is asked for here -/
def tyd : D → Bool
  | .mu _ => false
  | .dk _ _ => false
  | .dt _ _ => false
  | .ins _ _ _ => false
  | _ => true
theorem RV.tyx {v : V} {d : D} (m : RM tb K H ms ex M) (h : RV K H ms ex v d) (t : tyd d = true) : TyX K H v (.type (tyN d)) := by
  cases h with
  | non => exact .base .non
  | bl b => exact .base (.bl b)
  | int i => exact .base (.int i)
  | str x => exact .base (.str x)
  | tup s r => exact .base (.tup s)
  | ct s r =>
    rcases s with (s | ⟨o, s⟩) | ⟨o, its, n, h1, h2, _⟩
    · exact .base (.tup s)
    · exact .fTuple s
    · exact .kTuple h1 h2
  | lst s _ _ _ => exact .base (.lst s)
  | fz s _ =>
    rcases s with ⟨o, s⟩ | ⟨o, its, n, h1, h2, _⟩
    · exact .base (.frz s)
    · exact .kList h1 h2
  | mu e => cases t
  | dk _ _ _ _ _ => cases t
  | dt _ _ _ _ _ => cases t
  | ins _ _ _ _ _ => cases t
def isT (T : String) : D → Bool
  | .non => false
  | .bl _ => T == "bool" || T == "int"
  | .int _ => T == "int"
  | .str _ => T == "str"
  | .tup _ => T == "tuple"
  | .ct _ => T == "tuple"
  | .lst _ => T == "list"
  | .fz _ => T == "list"
  | _ => false
def mIs (T : String) (f : FE) : FE := fun r M => match f r M with
  | some (d, M1) => if tyd d then some (.bl (isT T d), M1) else none
  | none => none
def TyOk (T : String) : Prop := ∀ d : D, tyd d = true → kitB (tyN d) T = some (isT T d)
theorem ty_int : TyOk "int" := fun d h => by cases d <;> first | (dsimp only [tyN, isT]; decide +kernel) | cases h
theorem ty_bool : TyOk "bool" := fun d h => by cases d <;> first | (dsimp only [tyN, isT]; decide +kernel) | cases h
theorem ty_tuple : TyOk "tuple" := fun d h => by cases d <;> first | (dsimp only [tyN, isT]; decide +kernel) | cases h
theorem ty_str : TyOk "str" := fun d h => by cases d <;> first | (dsimp only [tyN, isT]; decide +kernel) | cases h
theorem ty_list : TyOk "list" := fun d h => by cases d <;> first | (dsimp only [tyN, isT]; decide +kernel) | cases h
theorem me_isi {x y : Str} {p p3 : Pos} {T : String} (hT : TyOk T) (hg : Gl X x) (hm : X.mg x = none) (hv : bootBuiltins x = some (.builtin "isinstance")) (hg2 : Gl X y) (hm2 : X.mg y = none) (hv2 : bootBuiltins y = some (.type T)) (ha : PE X a (eM tb X.K f))
    (hn : x ≠ "__name__" := by decide) (hdb : (x == ("__debug__" : Str)) = false := by decide) (hn2 : y ≠ "__name__" := by decide) (hdb2 : (y == ("__debug__" : Str)) = false := by decide)
    (hs : starEach [a, .Name y p3] X.env = (false, eval a X.env) :: starEach [.Name y p3] X.env := by rfl) (hpl : (backTo pos (starEach [.Name y p3] X.env)).any (·.1) = false := by rfl) (hs2 : starEach [.Name y p3] X.env = (false, eval (.Name y p3) X.env) :: starEach [] X.env := by rfl) :
    PE X (.Call (.Name x p) [a, .Name y p3] [] pos) (eM tb X.K (mIs T f)) :=
  (pe_callB call_isi hg hm hv (pa_cons ha (pa_cons (pe_bltn hg2 hm2 hv2 (v := .ty T) rfl hn2 hdb2) pa_nil hs2) hs) hn hdb hs hpl).weak fun σ H Q h => by
    obtain ⟨ms, ex, r, M, d', M', m, s, e, q⟩ := h
    unfold mIs at e
    split at e
    · rename_i d M1 h1
      split at e
      · rename_i td
        cases e
        refine eM.use m s h1 fun H1 v1 x1 m1 s1 r1 => ?_
        exact ⟨v1, .ty T, _, _, _, rfl, .ty T, r1.tyx m1 td, kit_ty (hT d td), q H1 _ x1 m1 (.bl _)⟩
      · cases e
    · cases e

/-! ### calls of the text's own -/
theorem me_call {CX : CXT} {k n : Nat} {fA : Addr} {fd : FuncData} {ps : List Str} {x : Str} {p : Pos} {gc : FC} {E : XK} (F : FnOk X.prog X.w X.K X.mg X.base CX k fA fd ps (spM tb X.K n gc)) (hr : Room k X.A) (hg : Gl X x) (hm : X.mg x = some (.ref fA)) (hk : PySem.W.keepIn X.K (.ref fA) = true)
    (hb : Binds X.K fd ps []) (hx : Passes CX X E) (ha : PA X (a :: es) (aM tb X.K fa)) (hl : ∀ r M ds M', fa r M = some (ds, M') → ds.length = n) (hdb : (x == ("__debug__" : Str)) = false := by decide)
    (he : starEach (a :: es) X.env = (false, eval a X.env) :: starEach es X.env := by rfl) (hpl : (backTo pos (starEach es X.env)).any (·.1) = false := by rfl) : PE X (.Call (.Name x p) (a :: es) [] pos) (eM tb X.K (mCall gc fa)) :=
  (pe_call F hr hg hm hk hb .nil hx ha hdb he hpl).weak fun σ H Q h => by
    obtain ⟨ms, ex, r, M, d', M', m, s, e, q⟩ := h
    unfold mCall at e
    split at e
    · rename_i ds M1 h1
      refine aM.use m s h1 fun H1 v1 x1 m1 s1 r1 => ?_
      refine ⟨ms, ex, M1, ds, d', M', m1, ?_, hl _ _ _ _ h1, e, fun H2 v2 x2 m2 r2 => q H2 v2 (x1.trans x2) m2 r2⟩
      rw [List.append_nil]
      exact r1
    · cases e
theorem ll_nil : ∀ r M ds M', mNil r M = some (ds, M') → ds.length = 0 := by
  intro r M ds M' h
  cases h
  rfl
theorem ll_cons {n : Nat} (h : ∀ r M ds M', fa r M = some (ds, M') → ds.length = n) : ∀ r M ds M', mCons f fa r M = some (ds, M') → ds.length = n + 1 := by
  intro r M ds M' e
  unfold mCons at e
  split at e
  · split at e
    · rename_i h2
      cases e
      exact congrArg (· + 1) (h _ _ _ _ h2)
    · cases e
  · cases e
end
end NL

/-! ML4: statements, loops, comprehensions, defs. -/
namespace NL
open PySem PySem.Spec PyProof.Rows L2
variable {tb : List Addr} {K : PySem.W.Frag} {H H' H1 : Hp} {ms ms' ex ex' : List Addr} {M M' M1 : MM}

/-! ### plain functions -/
def mSkip : FS := fun r M => some (.nx r, M)
def mSeq (f g : FS) : FS := fun r M => match f r M with
  | some (.nx r1, M1) => g r1 M1
  | some (.rt d, M1) => some (.rt d, M1)
  | some (.bk r1, M1) => some (.bk r1, M1)
  | some (.ct r1, M1) => some (.ct r1, M1)
  | none => none
def mRet (f : FE) : FS := fun r M => match f r M with
  | some (d, M1) => some (.rt d, M1)
  | none => none
def mDrop (f : FE) : FS := fun r M => match f r M with
  | some (d, M1) => some (.nx r, M1)
  | none => none
def mIfS (c : FB) (f g : FS) : FS := fun r M => match c r M with
  | some (true, M1) => f r M1
  | some (false, M1) => g r M1
  | none => none
def mNever : FS := fun _ _ => none
def mSet (i : Nat) (f : FE) : FS := fun r M => match f r M with
  | some (d, M1) => some (.nx (r.set i (some d)), M1)
  | none => none
/-- a, b = e, e' -/
def mPar2 (i j : Nat) (f : FA) : FS := fun r M => match f r M with
  | some ([x, y], M1) => some (.nx ((r.set i (some x)).set j (some y)), M1)
  | _ => none
def mPar3 (i j l : Nat) (f : FA) : FS := fun r M => match f r M with
  | some ([x, y, z], M1) => some (.nx (((r.set i (some x)).set j (some y)).set l (some z)), M1)
  | _ => none
def tgName (i : Nat) : FT := fun d r => some (r.set i (some d))
def tgNil : List D → En → Option En
  | [], r => some r
  | _, _ => none
def tgCons (f : FT) (g : List D → En → Option En) : List D → En → Option En
  | d :: ds, r => match f d r with
    | some r1 => g ds r1
    | none => none
  | [], _ => none
def tgTup (n : Nat) (g : List D → En → Option En) : FT := fun d r => match d with
  | .tup ds => if ds.length = n then g ds r else none
  | _ => none
def mAsg (f : FE) (g : FT) : FS := fun r M => match f r M with
  | some (d, M1) => match g d r with
    | some r1 => some (.nx r1, M1)
    | none => none
  | none => none
/-- o[i] = e, o a list that may change -/
def mStore (fe fo fi : FE) : FS := fun r M => match fe r M with
  | some (d, M1) => match fo r M1 with
    | some (.mu n, M2) => match fi r M2 with
      | some (.int i, M3) => match M3[n]? with
        | some (.lst xs) => match ixN xs.length i with
          | some j => some (.nx r, M3.set n (.lst (xs.set j d)))
          | none => none
        | _ => none
      | _ => none
    | _ => none
  | none => none
def forD (tg : FT) (f : FS) : List D → FS
  | [], r, M => some (.nx r, M)
  | d :: ds, r, M => match tg d r with
    | some r1 => match f r1 M with
      | some (.nx r2, M2) => forD tg f ds r2 M2
      | some (.ct r2, M2) => forD tg f ds r2 M2
      | some (.bk r2, M2) => some (.nx r2, M2)
      | some (.rt d, M2) => some (.rt d, M2)
      | none => none
    | none => none
/-- what a loop walks: a tuple's items, a list's -/
def itemsT : D → Option (List D)
  | .tup xs => some xs
  | _ => none
def itemsL : D → Option (List D)
  | .lst xs => some xs
  | _ => none
def mFor (it : D → Option (List D)) (fi : FE) (tg : FT) (f : FS) : FS := fun r M => match fi r M with
  | some (d, M1) => match it d with
    | some xs => forD tg f xs r M1
    | none => none
  | none => none
def rangeD (lo : Int) (n : Nat) : List D := (List.range n).map fun (i : Nat) => D.int (lo + (i : Int))
def rng1 : List D → Option (Int × Int)
  | [.int j] => if j.natAbs ≤ 1000000 then some (0, j) else none
  | _ => none
def rng2 : List D → Option (Int × Int)
  | [.int i, .int j] => if i.natAbs ≤ 1000000 ∧ j.natAbs ≤ 1000000 then some (i, j) else none
  | _ => none
def mForR (rg : List D → Option (Int × Int)) (fa : FA) (tg : FT) (f : FS) : FS := fun r M => match fa r M with
  | some (ds, M1) => match rg ds with
    | some (i, j) => forD tg f (rangeD i (j - i).toNat) r M1
    | none => none
  | none => none
def whileD (c : FB) (f : FS) : Nat → FS
  | 0, _, _ => none
  | n + 1, r, M => match c r M with
    | some (false, M1) => some (.nx r, M1)
    | some (true, M1) => match f r M1 with
      | some (.nx r2, M2) => whileD c f n r2 M2
      | some (.ct r2, M2) => whileD c f n r2 M2
      | some (.bk r2, M2) => some (.nx r2, M2)
      | some (.rt d, M2) => some (.rt d, M2)
      | none => none
    | none => none
def wipeD (r : En) : List Nat → En
  | [] => r
  | v :: vs => (wipeD r vs).set v none
def mYes : FB := fun _ M => some (true, M)
def lcD (tg : FT) (t : FB) (e : FE) (r : En) : List D → MM → Option (List D × MM)
  | [], M => some ([], M)
  | d :: ds, M => match tg d r with
    | some r1 => match t r1 M with
      | some (true, M1) => match e r1 M1 with
        | some (y, M2) => match lcD tg t e r ds M2 with
          | some (ys, M3) => some (y :: ys, M3)
          | none => none
        | none => none
      | some (false, M1) => lcD tg t e r ds M1
      | none => none
    | none => none
def mLc (it : D → Option (List D)) (fi : FE) (tg : FT) (t : FB) (e : FE) (vs : List Nat) : FE := fun r M => match fi r M with
  | some (d, M1) => match it d with
    | some xs => if xs.length ≤ 1000 then match lcD tg t e (wipeD r vs) xs M1 with
        | some (ys, M2) => some (.lst ys, M2)
        | none => none
      else none
    | none => none
  | none => none
def mLcR (rg : List D → Option (Int × Int)) (fa : FA) (tg : FT) (t : FB) (e : FE) (vs : List Nat) : FE := fun r M => match fa r M with
  | some (ds, M1) => match rg ds with
    | some (i, j) => if (j - i).toNat ≤ 1000 then match lcD tg t e (wipeD r vs) (rangeD i (j - i).toNat) M1 with
        | some (ys, M2) => some (.lst ys, M2)
        | none => none
      else none
    | none => none
  | none => none
def startD (n : Nat) (ds : List D) : En := ds.map some ++ List.replicate (n - ds.length) none
/-- a def: its slots, its body -/
def mFun (n : Nat) (f : FS) : FC := fun ds M => match f (startD n ds) M with
  | some (.rt d, M1) => some (d, M1)
  | some (.nx _, M1) => some (.non, M1)
  | _ => none

/-! ### the slots wiped -/
theorem Sl.wipe1 {σ : L2.St} {r : En} {i : Nat} (h : Sl K H ms ex σ r) : Sl K H ms ex (σ.set i none) (r.set i none) :=
  ⟨by simp [h.len], fun j e q => by
    by_cases hj : i = j
    · subst hj
      by_cases hi : i < r.length
      · rw [List.getElem?_set_self hi] at q
        cases q
      · rw [List.getElem?_eq_none (by simpa using hi)] at q
        cases q
    · rw [List.getElem?_set_ne hj] at q
      obtain ⟨w, a, b⟩ := h.at_ j e q
      exact ⟨w, by rw [List.getElem?_set_ne hj]; exact a, b⟩⟩
theorem Sl.wipe {σ : L2.St} {r : En} (h : Sl K H ms ex σ r) : ∀ vs : List Nat, Sl K H ms ex (L2.wipe σ vs) (wipeD r vs)
  | [] => h
  | v :: vs => (Sl.wipe h vs).wipe1

section
variable {X : Cx} {pos p2 : Pos} {a b c : Expr} {es : List Expr} {f g h : FE} {fa : FA} {st : Stmt} {sts : List Stmt} {fs gs : FS} {fb : FB} {tg : Expr} {ft : FT}

theorem sM.use {σ : L2.St} {r : En} {f : FS} {o : Out} {E : Ends} (m : RM tb K H ms ex M) (s : Sl K H ms ex σ r) (e : f r M = some (o, M'))
    (q : ∀ H', Ext ms H H' → RM tb K H' ms ex M' → oEnd K ms ex E H' o) : sM tb K f E σ H :=
  ⟨ms, ex, r, M, o, M', m, s, e, q⟩
theorem mss_nil : PSs X [] (sM tb X.K mSkip) := pss_nil.weak fun E σ H h => by
  obtain ⟨ms, ex, r, M, o, M', m, s, e, q⟩ := h
  cases e
  exact q H (Ext.refl H) m σ s
theorem mss_one (h : PS X st (sM tb X.K fs)) : PSs X [st] (sM tb X.K fs) := pss_one h
theorem mss_cons (h1 : PS X st (sM tb X.K fs)) (h2 : PSs X sts (sM tb X.K gs)) : PSs X (st :: sts) (sM tb X.K (mSeq fs gs)) :=
  (pss_cons h1 h2).weak fun E σ H h => by
    obtain ⟨ms, ex, r, M, o, M', m, s, e, q⟩ := h
    unfold mSeq at e
    split at e
    · rename_i r1 M1 h1
      refine sM.use m s h1 fun H1 x1 m1 σ1 s1 => ?_
      exact sM.use m1 s1 e fun H2 x2 m2 => q H2 (x1.trans x2) m2
    · rename_i d M1 h1
      cases e
      exact sM.use m s h1 fun H1 x1 m1 => q H1 x1 m1
    · rename_i d M1 h1
      cases e
      exact sM.use m s h1 fun H1 x1 m1 => q H1 x1 m1
    · rename_i d M1 h1
      cases e
      exact sM.use m s h1 fun H1 x1 m1 => q H1 x1 m1
    · cases e
theorem ms_ret (he : PE X a (eM tb X.K f)) : PS X (.Return (some a) pos) (sM tb X.K (mRet f)) := (ps_ret he).weak fun E σ H h => by
  obtain ⟨ms, ex, r, M, o, M', m, s, e, q⟩ := h
  unfold mRet at e
  split at e
  · rename_i d M1 h1
    cases e
    exact eM.use m s h1 fun H1 v1 x1 m1 s1 r1 => q H1 x1 m1 v1 r1
  · cases e
theorem ms_expr (he : PE X a (eM tb X.K f)) (hs : swapsWith a none pos.line X.env = Pure.pure false := by rfl) : PS X (.Expr a pos) (sM tb X.K (mDrop f)) := (ps_expr he hs).weak fun E σ H h => by
  obtain ⟨ms, ex, r, M, o, M', m, s, e, q⟩ := h
  unfold mDrop at e
  split at e
  · rename_i d M1 h1
    cases e
    exact eM.use m s h1 fun H1 v1 x1 m1 s1 r1 => q H1 x1 m1 σ s1
  · cases e
theorem ms_if (hc : PT X c (bM tb X.K fb)) (ha : PSs X sts (sM tb X.K fs)) {sts2 : List Stmt} (hb : PSs X sts2 (sM tb X.K gs)) : PS X (.If c sts sts2 pos) (sM tb X.K (mIfS fb fs gs)) := (ps_if hc ha hb).weak fun E σ H h => by
  obtain ⟨ms, ex, r, M, o, M', m, s, e, q⟩ := h
  unfold mIfS at e
  split at e
  · rename_i M1 h1
    refine bM.use m s h1 fun H1 x1 m1 s1 => iteT ?_
    exact sM.use m1 s1 e fun H2 x2 m2 => q H2 (x1.trans x2) m2
  · rename_i M1 h1
    refine bM.use m s h1 fun H1 x1 m1 s1 => iteF ?_
    exact sM.use m1 s1 e fun H2 x2 m2 => q H2 (x1.trans x2) m2
  · cases e
theorem ms_never : PS X st (sM tb X.K mNever) := ps_never.weak fun E σ H h => by
  obtain ⟨ms, ex, r, M, o, M', m, s, e, q⟩ := h
  cases e
theorem mss_never : PSs X sts (sM tb X.K mNever) := pss_never.weak fun E σ H h => by
  obtain ⟨ms, ex, r, M, o, M', m, s, e, q⟩ := h
  cases e

/-! ### stores -/
theorem mt_set {i : Nat} {E : Ends} {σ : L2.St} (h : sM tb K (mSet i f) E σ H) : tAsg (eM tb K f) (gName i) E σ H := by
  obtain ⟨ms, ex, r, M, o, M', m, s, e, q⟩ := h
  unfold mSet at e
  split at e
  · rename_i d M1 h1
    cases e
    exact eM.use m s h1 fun H1 v1 x1 m1 s1 r1 => q H1 x1 m1 _ (s1.set r1)
  · cases e
theorem mg_name {i : Nat} {x : Str} (hN : X.N.Nodup) (hi : X.N[i]? = some x) (hx : Loc X.env.scope x) (hf : X.fn x = true ∨ X.env.scope.names.lookup x = some .local := by first | exact .inl rfl | exact .inr rfl | assumption) : PG X (.Name x pos) (gM X.K (tgName i)) :=
  (pg_name hN hi hx hf).weak fun v σ H Q h => by
    obtain ⟨ms, ex, r, d, r', s, rv, e, q⟩ := h
    cases e
    exact q _ (s.set rv)
theorem mgs_nil : PGs X [] (gsM X.K tgNil) := pgs_nil.weak fun v σ H Q h => by
  obtain ⟨ms, ex, r, d, r', s, rv, e, q⟩ := h
  unfold tgNil at e
  split at e
  · cases e
    cases rv
    exact ⟨rfl, q _ s⟩
  · cases e
theorem mgs_cons {ft : FT} {gt : List D → En → Option En} (h1 : PG X a (gM X.K ft)) (h2 : PGs X es (gsM X.K gt))
    (hs : (assignEach (a :: es) X.env).map (·.2) = assign a X.env :: (assignEach es X.env).map (·.2) := by rfl) : PGs X (a :: es) (gsM X.K (tgCons ft gt)) := (pgs_cons h1 h2 hs).weak fun v σ H Q h => by
  obtain ⟨ms, ex, r, d, r', s, rv, e, q⟩ := h
  unfold tgCons at e
  split at e
  · split at e
    · rename_i r1 h1
      cases rv with
      | cons rv1 rv2 =>
        exact ⟨_, _, rfl, ms, ex, r, _, r1, s, rv1, h1, fun σ1 s1 => ⟨ms, ex, r1, _, r', s1, rv2, e, fun σ2 s2 => q σ2 s2⟩⟩
    · cases e
  · cases e
theorem mg_tup {k : Nat} {gt : List D → En → Option En} {n : Nat} (hc : X.calm = true) (h : PGs X es (gsM X.K gt))
    (hn : (assignEach es X.env).length = n := by rfl) (hst : (assignEach es X.env).findIdx? (·.1) = none := by rfl) : PG X (.Tuple es k pos) (gM X.K (tgTup n gt)) := (pg_tup hc h hn hst).weak fun v σ H Q h => by
  obtain ⟨ms, ex, r, d, r', s, rv, e, q⟩ := h
  unfold tgTup at e
  split at e
  · split at e
    · rename_i hl
      cases rv with
      | tup sq rr => exact ⟨_, _, rfl, SqT.of sq, by rw [rr.length]; exact hl, ms, ex, r, _, r', s, rr, e, q⟩
    · cases e
  · cases e
theorem ms_asg (he : PE X a (eM tb X.K f)) (hg : PG X tg (gM X.K ft)) (hs : swapsWithSole [tg] a pos.line X.env = Pure.pure false := by rfl) (hw : swappedStores [tg] a X.env = Pure.pure none := by rfl)
    (h1 : (assignEach [tg] X.env).map (·.2) = [assign tg X.env] := by rfl) : PS X (.Assign [tg] a pos) (sM tb X.K (mAsg f ft)) := (ps_asg he hg hs hw h1).weak fun E σ H h => by
  obtain ⟨ms, ex, r, M, o, M', m, s, e, q⟩ := h
  unfold mAsg at e
  split at e
  · rename_i d M1 h1
    split at e
    · rename_i r1 h2
      cases e
      refine eM.use m s h1 fun H1 v1 x1 m1 s1 rv1 => ?_
      exact ⟨ms, ex, r, d, r1, s1, rv1, h2, fun σ2 s2 => q H1 x1 m1 σ2 s2⟩
    · cases e
  · cases e
theorem mt_par2 {i j : Nat} {E : Ends} {σ : L2.St} (h : sM tb K (mPar2 i j fa) E σ H) : tPar i j (aM tb K fa) E σ H := by
  obtain ⟨ms, ex, r, M, o, M', m, s, e, q⟩ := h
  unfold mPar2 at e
  split at e
  · rename_i x y M1 h1
    cases e
    refine aM.use m s h1 fun H1 v1 x1 m1 s1 r1 => ?_
    cases r1 with
    | cons r1 rr =>
      cases rr with
      | cons r2 rr =>
        cases rr
        exact ⟨_, _, rfl, q H1 x1 m1 _ ((s1.set r1).set r2)⟩
  · cases e
theorem mt_par3 {i j l : Nat} {E : Ends} {σ : L2.St} (h : sM tb K (mPar3 i j l fa) E σ H) : tPar3 i j l (aM tb K fa) E σ H := by
  obtain ⟨ms, ex, r, M, o, M', m, s, e, q⟩ := h
  unfold mPar3 at e
  split at e
  · rename_i x y M1 h1
    cases e
    refine aM.use m s h1 fun H1 v1 x1 m1 s1 r1 => ?_
    cases r1 with
    | cons r1 rr =>
      cases rr with
      | cons r2 rr =>
        cases rr with
        | cons r3 rr =>
          cases rr
          exact ⟨_, _, _, rfl, q H1 x1 m1 _ (((s1.set r1).set r2).set r3)⟩
  · cases e
theorem RM.store {n : Nat} {p : Addr} {o : HO} {d : D} (m : RM tb K H ms ex M) (e1 : ms[n]? = some p) (h : n < M.length) (nt : ∀ ps, o ≠ .tbl ps) (th : Thing H p) (r : Ext ms H (upd H p o) → Raw K (upd H p o) ms ex p d) :
    Ext ms H (upd H p o) ∧ RM tb K (upd H p o) ms ex (M.set n d) := by
  have hp : p ∈ ms := List.mem_of_getElem? e1
  have stay : ∀ b u, H b = some u → b ∉ ms → upd H p o b = some u := fun b u q nb => by
    have : b ≠ p := fun z => nb (z ▸ hp)
    rw [upd_ne this]
    exact q
  have x : Ext ms H (upd H p o) := ⟨fun b u q nb _ => stay b u q nb, fun b ps q nb => ⟨ps, stay b _ q nb⟩⟩
  refine ⟨x, ⟨by rw [List.length_set]; exact m.len, m.nd, fun k b ds' h1 h2 => ?_, fun b hb => ?_, fun b hb => ?_⟩⟩
  · by_cases hk : n = k
    · subst hk
      rw [List.getElem?_set_self h] at h2
      cases h2
      rw [e1] at h1
      cases h1
      exact r x
    · rw [List.getElem?_set_ne hk] at h2
      have this : b ≠ p := fun z => hk (by
        subst z
        obtain ⟨l1, g1⟩ := List.getElem?_eq_some_iff.mp e1
        obtain ⟨l2, g2⟩ := List.getElem?_eq_some_iff.mp h1
        exact (List.getElem_inj m.nd).mp (g1.trans g2.symm))
      exact (m.at_ k b ds' h1 h2).of (fun u q _ => by rw [upd_ne this]; exact q) fun rr => rr.ext m x
  · obtain ⟨n1, t⟩ := m.exs b hb
    have this : b ≠ p := fun z => n1 (z ▸ hp)
    refine ⟨n1, ?_⟩
    unfold Thing
    rw [upd_ne this]
    exact t
  · obtain ⟨ps, q, t⟩ := m.tbs b hb
    have this : b ≠ p := fun z => th.ne (z ▸ q) (fun _ y => by cases y) (fun _ y => by cases y) fun _ y => by cases y
    exact ⟨ps, by rw [upd_ne this]; exact q, t⟩
theorem mt_store {E : Ends} {σ : L2.St} {H : Hp} {f g h : FE} (h0 : sM tb K (mStore f g h) E σ H) : tAsg (eM tb K f) (gSub (eM tb K g) (eM tb K h) rSetL) E σ H := by
  obtain ⟨ms, ex, r, M, o, M', m, s, e, q⟩ := h0
  unfold mStore at e
  split at e
  · rename_i d M1 h1
    split at e
    · rename_i n M2 h2
      split at e
      · rename_i i M3 h3
        split at e
        · rename_i xs h4
          split at e
          · rename_i j h5
            cases e
            refine eM.use m s h1 fun H1 v1 x1 m1 s1 r1 => ?_
            refine eM.use m1 s1 h2 fun H2 v2 x2 m2 s2 r2 => ?_
            refine eM.use m2 s2 h3 fun H3 v3 x3 m3 s3 r3 => ?_
            cases r3
            have r2' := r2.ext m2 x3
            cases r2' with
            | mu e1 =>
              cases m3.at_ _ _ _ e1 h4 with
              | lst sq rr =>
                have rd := (r1.ext m1 x2).ext m2 x3
                have hn : n < M3.length := (List.getElem?_eq_some_iff.mp h4).1
                obtain ⟨x4, m4⟩ := m3.store e1 hn (fun _ z => by cases z) (.inl ⟨_, sq⟩) fun x => .lst upd_same ((rr.set rd j).ext m3 x)
                exact ⟨_, _, i, j, rfl, rfl, sq, by rw [rr.length]; exact h5, q _ (((x1.trans x2).trans x3).trans x4) m4 σ (s3.ext m3 x4)⟩
          · cases e
        · cases e
      · cases e
    · cases e
  · cases e

/-! ### loops -/
/-- the loop's reading, for what yields the items of a list of data, one a turn -/
theorem for_core {wi : TI} {J : It} {E : Ends} {σ : L2.St} {r : En} {xs : List D} {o : Out} (m : RM tb K H ms ex M) (s : Sl K H ms ex σ r) (e : forD ft fs xs r M = some (o, M')) (q : ∀ H', Ext ms H H' → RM tb K H' ms ex M' → oEnd K ms ex E H' o)
    (hgo : ∀ (i : Nat) (H' : Hp) (d : D), Ext ms H H' → xs[i]? = some d → J.go i H' ∧ ∀ x H2, J.yld i H' x H2 → H2 = H' ∧ ∀ M2, RM tb K H' ms ex M2 → RV K H' ms ex x d) (hst : ∀ H', Ext ms H H' → J.stop xs.length H') :
    ∃ W : Nat → Nat → L2.St → Hp → Prop, (∃ k, W 0 k σ H) ∧ ∀ i k σ H, W i k σ H →
      (J.stop i H ∧ E.nx σ H) ∨ (J.go i H ∧ ∃ N : L2.St → Hp → Prop, (∀ σ' H', N σ' H' → ∃ k', k' < k ∧ W (i + 1) k' σ' H') ∧ ∀ x H', J.yld i H x H' → gM K ft x σ H' fun σ2 H2 => sM tb K fs { E with nx := N, ct := N, bk := E.nx } σ2 H2) := by
  refine ⟨fun i k σ' H' => k = xs.length - i ∧ i ≤ xs.length ∧ ∃ r' M1, Ext ms H H' ∧ RM tb K H' ms ex M1 ∧ Sl K H' ms ex σ' r' ∧ forD ft fs (xs.drop i) r' M1 = some (o, M'), ⟨xs.length, by omega, Nat.zero_le _, r, M, Ext.refl H, m, s, e⟩, ?_⟩
  rintro i k σ1 H1 ⟨hk, hi, r1, M1, x1, m1, s1, e1⟩
  by_cases hlt : i < xs.length
  · obtain ⟨hg, hy⟩ := hgo i H1 xs[i] x1 (List.getElem?_eq_getElem hlt)
    rw [List.drop_eq_getElem_cons hlt] at e1
    unfold forD at e1
    split at e1
    · rename_i r2 h2
      refine .inr ⟨hg, fun σ' H' => i + 1 ≤ xs.length ∧ ∃ r' M2, Ext ms H H' ∧ RM tb K H' ms ex M2 ∧ Sl K H' ms ex σ' r' ∧ forD ft fs (xs.drop (i + 1)) r' M2 = some (o, M'), fun σ' H' hN => ⟨xs.length - (i + 1), by omega, rfl, hN⟩, fun x H' hx => ?_⟩
      obtain ⟨eH, rv⟩ := hy x H' hx
      subst eH
      have rv := rv M1 m1
      refine ⟨ms, ex, r1, xs[i], r2, s1, rv, h2, fun σ2 s2 => ?_⟩
      split at e1
      · rename_i r3 M3 h3
        exact sM.use m1 s2 h3 fun H3 x3 m3 σ3 s3 => ⟨hlt, r3, M3, x1.trans x3, m3, s3, e1⟩
      · rename_i r3 M3 h3
        exact sM.use m1 s2 h3 fun H3 x3 m3 σ3 s3 => ⟨hlt, r3, M3, x1.trans x3, m3, s3, e1⟩
      · rename_i r3 M3 h3
        cases e1
        exact sM.use m1 s2 h3 fun H3 x3 m3 σ3 s3 => q H3 (x1.trans x3) m3 σ3 s3
      · rename_i d3 M3 h3
        cases e1
        exact sM.use m1 s2 h3 fun H3 x3 m3 v3 rv3 => q H3 (x1.trans x3) m3 v3 rv3
      · cases e1
    · cases e1
  · have ei : i = xs.length := by omega
    subst ei
    rw [List.drop_length] at e1
    cases e1
    exact .inl ⟨hst H1 x1, q H1 x1 m1 σ1 s1⟩
theorem itt_go {vs : List V} {ds : List D} {q : Addr} (m : RM tb K H ms ex M) (sq : SqT K H q vs) (rr : RVs K H ms ex vs ds) (i : Nat) (H' : Hp) (d : D) (x : Ext ms H H') (hd : ds[i]? = some d) :
    (Itt K q).go i H' ∧ ∀ v H2, (Itt K q).yld i H' v H2 → H2 = H' ∧ ∀ M2, RM tb K H' ms ex M2 → RV K H' ms ex v d := by
  have sq' : SqT K H' q vs := SqT.stay (ms := ms) (ex := ex) (fun _ z => m.lst z) (fun b o e n _ t => x b o e n t) sq
  obtain ⟨v0, h0, rv0⟩ := rr.get hd
  refine ⟨⟨vs, v0, sq', h0⟩, fun v H2 hy => ⟨hy.1, fun _ _ => ?_⟩⟩
  have := hy.2 vs sq'
  rw [h0] at this
  cases this
  exact rv0.ext m x
theorem itt_stop {vs : List V} {ds : List D} {q : Addr} (m : RM tb K H ms ex M) (sq : SqT K H q vs) (rr : RVs K H ms ex vs ds) (H' : Hp) (x : Ext ms H H') : (Itt K q).stop ds.length H' :=
  ⟨vs, SqT.stay (ms := ms) (ex := ex) (fun _ z => m.lst z) (fun b o e n _ t => x b o e n t) sq, by rw [rr.length]; exact Nat.le_refl _⟩
theorem itl_go {vs : List V} {ds : List D} {q : Addr} (m : RM tb K H ms ex M) (sq : H q = some (.lst vs)) (nq : q ∉ ms) (rr : RVs K H ms ex vs ds) (i : Nat) (H' : Hp) (d : D) (x : Ext ms H H') (hd : ds[i]? = some d) :
    (Itl K q).go i H' ∧ ∀ v H2, (Itl K q).yld i H' v H2 → H2 = H' ∧ ∀ M2, RM tb K H' ms ex M2 → RV K H' ms ex v d := by
  have sq' : SqL K H' q vs := SqL.of (x q _ sq nq fun _ z => by cases z)
  obtain ⟨v0, h0, rv0⟩ := rr.get hd
  refine ⟨⟨vs, v0, sq', h0⟩, fun v H2 hy => ⟨hy.1, fun _ _ => ?_⟩⟩
  have := hy.2 vs sq'
  rw [h0] at this
  cases this
  exact rv0.ext m x
theorem itl_stop {vs : List V} {ds : List D} {q : Addr} (sq : H q = some (.lst vs)) (nq : q ∉ ms) (rr : RVs K H ms ex vs ds) (H' : Hp) (x : Ext ms H H') : (Itl K q).stop ds.length H' :=
  ⟨vs, SqL.of (x q _ sq nq fun _ z => by cases z), by rw [rr.length]; exact Nat.le_refl _⟩
theorem rangeD_len (i : Int) (n : Nat) : (rangeD i n).length = n := by simp [rangeD]
theorem rangeD_get {i : Int} {n k : Nat} {d : D} (h : (rangeD i n)[k]? = some d) : k < n ∧ d = .int (i + k) := by
  unfold rangeD at h
  rw [List.getElem?_map] at h
  by_cases hk : k < n
  · rw [List.getElem?_range hk] at h
    cases h
    exact ⟨hk, rfl⟩
  · rw [List.getElem?_eq_none (by simpa using hk)] at h
    cases h
theorem itr_go {lo : Int} {n : Nat} (i : Nat) (H' : Hp) (d : D) (hd : (rangeD lo n)[i]? = some d) :
    (Itr lo n).go i H' ∧ ∀ v H2, (Itr lo n).yld i H' v H2 → H2 = H' ∧ ∀ M2, RM tb K H' ms ex M2 → RV K H' ms ex v d := by
  obtain ⟨h1, h2⟩ := rangeD_get hd
  refine ⟨h1, fun v H2 hy => ⟨hy.1, fun _ _ => ?_⟩⟩
  rw [hy.2, h2]
  exact .int _

theorem ms_forT (hp : PassesOwn (model X.prog X.w) X.A X.env X.xe) (hc : X.calm = true) (hi : PE X a (eM tb X.K f)) (hg : PG X tg (gM X.K ft)) (hb : PSs X sts (sM tb X.K fs)) (hs : ∀ x, foldedSetIterable a X.env x = Pure.pure x := by intro _; rfl) :
    PS X (.For tg a sts [] pos) (sM tb X.K (mFor itemsT f ft fs)) :=
  (ps_for hp hc (pi_tup hi) hg hb hs).weak fun E σ H h => by
    obtain ⟨ms, ex, r, M, o, M', m, s, e, q⟩ := h
    unfold mFor at e
    split at e
    · rename_i d M1 h1
      split at e
      · rename_i xs h2
        refine eM.use m s h1 fun H1 v1 x1 m1 s1 r1 => ?_
        unfold itemsT at h2
        split at h2
        · cases h2
          cases r1 with
          | tup sq rr => exact ⟨_, rfl, ⟨_, SqT.of sq⟩, for_core (wi := iTup X.K (eM tb X.K f)) m1 s1 e (fun H2 x2 m2 => q H2 (x1.trans x2) m2) (fun i H' d x hd => itt_go m1 (SqT.of sq) rr i H' d x hd) (fun H' x => itt_stop m1 (SqT.of sq) rr H' x)⟩
        · cases h2
      · cases e
    · cases e
theorem ms_forL (hp : PassesOwn (model X.prog X.w) X.A X.env X.xe) (hc : X.calm = true) (hi : PE X a (eM tb X.K f)) (hg : PG X tg (gM X.K ft)) (hb : PSs X sts (sM tb X.K fs)) (hs : ∀ x, foldedSetIterable a X.env x = Pure.pure x := by intro _; rfl) :
    PS X (.For tg a sts [] pos) (sM tb X.K (mFor itemsL f ft fs)) :=
  (ps_for hp hc (pi_list hi) hg hb hs).weak fun E σ H h => by
    obtain ⟨ms, ex, r, M, o, M', m, s, e, q⟩ := h
    unfold mFor at e
    split at e
    · rename_i d M1 h1
      split at e
      · rename_i xs h2
        refine eM.use m s h1 fun H1 v1 x1 m1 s1 r1 => ?_
        unfold itemsL at h2
        split at h2
        · cases h2
          cases r1 with
          | lst sq n1 n2 rr => exact ⟨_, rfl, ⟨_, SqL.of sq⟩, for_core (wi := iList X.K (eM tb X.K f)) m1 s1 e (fun H2 x2 m2 => q H2 (x1.trans x2) m2) (fun i H' d x hd => itl_go m1 sq n1 rr i H' d x hd) (fun H' x => itl_stop sq n1 rr H' x)⟩
        · cases h2
      · cases e
    · cases e
theorem ms_forR1 {x : Expr} {p : Pos} (hp : PassesOwn (model X.prog X.w) X.A X.env X.xe) (hc : X.calm = true) (hgl : Gl X "range") (hm : X.mg "range" = none) (hi : PA X [x] (aM tb X.K fa)) (hg : PG X tg (gM X.K ft)) (hb : PSs X sts (sM tb X.K fs))
    (h0 : starEach [x] X.env = [(false, eval x X.env)] := by rfl) (hs : ∀ y, foldedSetIterable (.Call (.Name "range" p) [x] [] p2) X.env y = Pure.pure y := by intro _; rfl) :
    PS X (.For tg (.Call (.Name "range" p) [x] [] p2) sts [] pos) (sM tb X.K (mForR rng1 fa ft fs)) :=
  (ps_for hp hc (pi_range1 hgl hm hi h0) hg hb hs).weak fun E σ H h => by
    obtain ⟨ms, ex, r, M, o, M', m, s, e, q⟩ := h
    unfold mForR at e
    split at e
    · rename_i ds M1 h1
      split at e
      · rename_i i j h2
        refine aM.use m s h1 fun H1 v1 x1 m1 s1 r1 => ?_
        unfold rng1 at h2
        split at h2
        · split at h2
          · rename_i hb2
            cases h2
            cases r1 with
            | cons r1 rr =>
              cases rr
              cases r1
              refine ⟨j, rfl, by omega, by omega, ?_⟩
              have e0 : (j - 0).toNat = j.toNat := by simp
              rw [e0] at e
              exact for_core (wi := iRng1 (aM tb X.K fa)) m1 s1 e (fun H2 x2 m2 => q H2 (x1.trans x2) m2) (fun i H' d x hd => itr_go i H' d hd) (fun H' x => by rw [rangeD_len]; exact Nat.le_refl _)
          · cases h2
        · cases h2
      · cases e
    · cases e
theorem ms_forR2 {x y : Expr} {p : Pos} (hp : PassesOwn (model X.prog X.w) X.A X.env X.xe) (hc : X.calm = true) (hgl : Gl X "range") (hm : X.mg "range" = none) (hi : PA X [x, y] (aM tb X.K fa)) (hg : PG X tg (gM X.K ft)) (hb : PSs X sts (sM tb X.K fs))
    (h0 : starEach [x, y] X.env = [(false, eval x X.env), (false, eval y X.env)] := by rfl) (h02 : starEach [y] X.env = [(false, eval y X.env)] := by rfl) (hs : ∀ z, foldedSetIterable (.Call (.Name "range" p) [x, y] [] p2) X.env z = Pure.pure z := by intro _; rfl) :
    PS X (.For tg (.Call (.Name "range" p) [x, y] [] p2) sts [] pos) (sM tb X.K (mForR rng2 fa ft fs)) :=
  (ps_for hp hc (pi_range2 hgl hm hi h0 h02) hg hb hs).weak fun E σ H h => by
    obtain ⟨ms, ex, r, M, o, M', m, s, e, q⟩ := h
    unfold mForR at e
    split at e
    · rename_i ds M1 h1
      split at e
      · rename_i i j h2
        refine aM.use m s h1 fun H1 v1 x1 m1 s1 r1 => ?_
        unfold rng2 at h2
        split at h2
        · split at h2
          · rename_i hb2
            cases h2
            cases r1 with
            | cons r1 rr =>
              cases rr with
              | cons r2 rr =>
                cases rr
                cases r1
                cases r2
                refine ⟨i, j, rfl, by omega, ?_⟩
                exact for_core (wi := iRng2 (aM tb X.K fa)) m1 s1 e (fun H2 x2 m2 => q H2 (x1.trans x2) m2) (fun i H' d x hd => itr_go i H' d hd) (fun H' x => by rw [rangeD_len]; exact Nat.le_refl _)
          · cases h2
        · cases h2
      · cases e
    · cases e
theorem ms_while (n : Nat) (hp : PassesOwn (model X.prog X.w) X.A X.env X.xe) (hc : PT X c (bM tb X.K fb)) (hb : PSs X sts (sM tb X.K fs)) : PS X (.While c sts [] pos) (sM tb X.K (whileD fb fs n)) :=
  (ps_while hp hc hb).weak fun E σ H h => by
    obtain ⟨ms, ex, r, M, o, M', m, s, e, q⟩ := h
    refine ⟨fun k σ' H' => ∃ r' M1, Ext ms H H' ∧ RM tb X.K H' ms ex M1 ∧ Sl X.K H' ms ex σ' r' ∧ whileD fb fs k r' M1 = some (o, M'), ⟨n, r, M, Ext.refl H, m, s, e⟩, ?_⟩
    rintro k σ1 H1 ⟨r1, M1, x1, m1, s1, e1⟩
    cases k with
    | zero => cases e1
    | succ k =>
      unfold whileD at e1
      split at e1
      · rename_i M2 h2
        cases e1
        exact bM.use m1 s1 h2 fun H2 x2 m2 s2 => iteF (q H2 (x1.trans x2) m2 σ1 s2)
      · rename_i M2 h2
        refine bM.use m1 s1 h2 fun H2 x2 m2 s2 => iteT ⟨fun σ' H' => ∃ r' M1, Ext ms H H' ∧ RM tb X.K H' ms ex M1 ∧ Sl X.K H' ms ex σ' r' ∧ whileD fb fs k r' M1 = some (o, M'), fun σ' H' hN => ⟨k, Nat.lt_succ_self _, hN⟩, ?_⟩
        split at e1
        · rename_i r3 M3 h3
          exact sM.use m2 s2 h3 fun H3 x3 m3 σ3 s3 => ⟨r3, M3, (x1.trans x2).trans x3, m3, s3, e1⟩
        · rename_i r3 M3 h3
          exact sM.use m2 s2 h3 fun H3 x3 m3 σ3 s3 => ⟨r3, M3, (x1.trans x2).trans x3, m3, s3, e1⟩
        · rename_i r3 M3 h3
          cases e1
          exact sM.use m2 s2 h3 fun H3 x3 m3 σ3 s3 => q H3 ((x1.trans x2).trans x3) m3 σ3 s3
        · rename_i d3 M3 h3
          cases e1
          exact sM.use m2 s2 h3 fun H3 x3 m3 v3 rv3 => q H3 ((x1.trans x2).trans x3) m3 v3 rv3
        · cases e1
      · cases e1
end
end NL

/-! ML5: comprehensions, defs, a list that may change. -/
namespace NL
open PySem PySem.Spec PyProof.Rows L2
variable {tb : List Addr} {K : PySem.W.Frag} {H H' H1 : Hp} {ms ms' ex ex' : List Addr} {M M' M1 : MM}

/-! ### slots forgotten and set -/
theorem wipe_set (x y : Option V) (i : Nat) : ∀ (vs : List Nat) (σ : L2.St), (L2.wipe (σ.set i x) vs).set i y = (L2.wipe σ vs).set i y
  | [], σ => by
    show (σ.set i x).set i y = σ.set i y
    rw [List.set_set]
  | v :: vs, σ => by
    show ((L2.wipe (σ.set i x) vs).set v none).set i y = ((L2.wipe σ vs).set v none).set i y
    by_cases h : v = i
    · subst h
      rw [List.set_set, List.set_set, wipe_set x y v vs σ]
    · rw [List.set_comm _ _ h, List.set_comm _ _ h, wipe_set x y i vs σ]
theorem wipe_same (x : Option V) (i : Nat) : ∀ (vs : List Nat) (σ : L2.St), i ∈ vs → L2.wipe (σ.set i x) vs = L2.wipe σ vs
  | [], _, h => by cases h
  | v :: vs, σ, h => by
    show (L2.wipe (σ.set i x) vs).set v none = (L2.wipe σ vs).set v none
    by_cases e : v = i
    · subst e
      exact wipe_set x none v vs σ
    · rcases List.mem_cons.mp h with h | h
      · exact absurd h.symm e
      · rw [wipe_same x i vs σ h]

/-! ### targets of a comprehension -/
def gW (K : PySem.W.Frag) (vs : List Nat) (f : FT) : TG := fun v σ H Q => ∃ ms ex r d r', Sl K H ms ex σ r ∧ RV K H ms ex v d ∧ f d r = some r' ∧ ∀ σ', Sl K H ms ex σ' r' → L2.wipe σ' vs = L2.wipe σ vs → Q σ' H
def gsW (K : PySem.W.Frag) (vs : List Nat) (f : List D → En → Option En) : TGs := fun v σ H Q => ∃ ms ex r d r', Sl K H ms ex σ r ∧ RVs K H ms ex v d ∧ f d r = some r' ∧ ∀ σ', Sl K H ms ex σ' r' → L2.wipe σ' vs = L2.wipe σ vs → Q σ' H
section
variable {X : Cx} {pos p2 : Pos} {a b c : Expr} {es : List Expr} {f g h fe : FE} {fa : FA} {st : Stmt} {sts : List Stmt} {fs gs : FS} {fb : FB} {tg : Expr} {ft : FT} {vs : List Nat}
theorem mw_name {i : Nat} {x : Str} (hv : i ∈ vs) (hN : X.N.Nodup) (hi : X.N[i]? = some x) (hx : Loc X.env.scope x) (hf : X.fn x = true ∨ X.env.scope.names.lookup x = some .local := by first | exact .inl rfl | exact .inr rfl | assumption) : PG X (.Name x pos) (gW X.K vs (tgName i)) :=
  (pg_name hN hi hx hf).weak fun v σ H Q h => by
    obtain ⟨ms, ex, r, d, r', s, rv, e, q⟩ := h
    cases e
    exact q _ (s.set rv) (wipe_same _ _ _ _ hv)
theorem mws_nil : PGs X [] (gsW X.K vs tgNil) := pgs_nil.weak fun v σ H Q h => by
  obtain ⟨ms, ex, r, d, r', s, rv, e, q⟩ := h
  unfold tgNil at e
  split at e
  · cases e
    cases rv
    exact ⟨rfl, q _ s rfl⟩
  · cases e
theorem mws_cons {ft : FT} {gt : List D → En → Option En} (h1 : PG X a (gW X.K vs ft)) (h2 : PGs X es (gsW X.K vs gt))
    (hs : (assignEach (a :: es) X.env).map (·.2) = assign a X.env :: (assignEach es X.env).map (·.2) := by rfl) : PGs X (a :: es) (gsW X.K vs (tgCons ft gt)) := (pgs_cons h1 h2 hs).weak fun v σ H Q h => by
  obtain ⟨ms, ex, r, d, r', s, rv, e, q⟩ := h
  unfold tgCons at e
  split at e
  · split at e
    · rename_i r1 h1
      cases rv with
      | cons rv1 rv2 =>
        exact ⟨_, _, rfl, ms, ex, r, _, r1, s, rv1, h1, fun σ1 s1 w1 => ⟨ms, ex, r1, _, r', s1, rv2, e, fun σ2 s2 w2 => q σ2 s2 (w2.trans w1)⟩⟩
    · cases e
  · cases e
theorem mw_tup {k : Nat} {gt : List D → En → Option En} {n : Nat} (hc : X.calm = true) (h : PGs X es (gsW X.K vs gt))
    (hn : (assignEach es X.env).length = n := by rfl) (hst : (assignEach es X.env).findIdx? (·.1) = none := by rfl) : PG X (.Tuple es k pos) (gW X.K vs (tgTup n gt)) := (pg_tup hc h hn hst).weak fun v σ H Q h => by
  obtain ⟨ms, ex, r, d, r', s, rv, e, q⟩ := h
  unfold tgTup at e
  split at e
  · split at e
    · rename_i hl
      cases rv with
      | tup sq rr => exact ⟨_, _, rfl, SqT.of sq, by rw [rr.length]; exact hl, ms, ex, r, _, r', s, rr, e, q⟩
    · cases e
  · cases e
theorem mts_nil : PTs X [] (bM tb X.K mYes) := ⟨fun pins s σ H Q I h => by
  obtain ⟨ms, ex, r, M, d, M', m, sl, e, q⟩ := h
  cases e
  exact pts_nil.run pins s σ H Q I (q H (Ext.refl H) m)⟩
theorem mts_one (h : PT X c (bM tb X.K fb)) : PTs X [c] (bM tb X.K fb) := pts_one h

/-- one more list that is being made -/
theorem RV.lock {p : Addr} {v : V} {d : D} (m : RM tb K H ms ex M) (hp : H p = none) (x : Ext ms H H') (r : RV K H ms ex v d) : RV K H' ms (p :: ex) v d :=
  RV.mono (fun _ _ z => z) (fun a o e => ⟨id, fun z => by
    rcases List.mem_cons.mp z with z | z
    · rw [z, hp] at e
      cases e
    · exact .inr z⟩) (fun _ z => m.lst z) (fun b o q n _ t => x b o q n t) r
theorem Sl.lock {p : Addr} {σ : L2.St} {r : En} (m : RM tb K H ms ex M) (hp : H p = none) (x : Ext ms H H') (s : Sl K H ms ex σ r) : Sl K H' ms (p :: ex) σ r :=
  ⟨s.len, fun i d e => by
    obtain ⟨v, h1, h2⟩ := s.at_ i d e
    exact ⟨v, h1, h2.lock m hp x⟩⟩
theorem Ext.grow {p : Addr} {o : HO} (x : Ext ms H H') (hp : H p = none) : Ext ms H (upd H' p o) := by
  have ne : ∀ b u, H b = some u → b ≠ p := fun b u e z => by
    rw [z, hp] at e
    cases e
  exact ⟨fun b u e nb t => (upd_ne (ne b u e)).trans (x b u e nb t), fun b ps e nb => (x.tab b ps e nb).elim fun ps' h => ⟨ps', (upd_ne (ne b _ e)).trans h⟩⟩
theorem Raw.more {p a : Addr} {d : D} {H' : Hp} (m : RM tb K H ms ex M) (hp : H p = none) (sm : Same H H') (h : Raw K H ms ex a d) : Raw K H' ms (p :: ex) a d :=
  h.of (fun _ q _ => sm _ _ q) fun r => RVs.mono (fun _ _ z => z) (fun a o e => ⟨id, fun z => by
    rcases List.mem_cons.mp z with z | z
    · rw [z, hp] at e
      cases e
    · exact .inr z⟩) (fun _ z => m.lst z) (fun b o q n _ _ => sm b o q) r
theorem lock_newO {p : Addr} {o : HO} (m : RM tb K H ms ex M) (hp : H p = none) (t : Thing (upd H p o) p) : RM tb K (upd H p o) ms (p :: ex) M := by
  have sm := same_new (o := o) hp
  obtain ⟨n1, n2⟩ := fresh_ms m hp
  refine ⟨m.len, m.nd, fun n a ds h1 h2 => (m.at_ n a ds h1 h2).more m hp sm, fun b hb => ?_, fun b hb => ?_⟩
  · rcases List.mem_cons.mp hb with hb | hb
    · subst hb
      exact ⟨n1, t⟩
    · exact ⟨(m.exs b hb).1, (m.exs b hb).2.same sm⟩
  · obtain ⟨ps, q, y⟩ := m.tbs b hb
    exact ⟨ps, sm _ _ q, y⟩
theorem lock_new {p : Addr} (m : RM tb K H ms ex M) (hp : H p = none) : RM tb K (upd H p (.lst [])) ms (p :: ex) M := lock_newO m hp (.inl ⟨_, upd_same⟩)
theorem lock_growO {p : Addr} {o : HO} (m : RM tb K H ms (p :: ex) M) (t : Thing (upd H p o) p) : (∀ {v d}, RV K H ms (p :: ex) v d → RV K (upd H p o) ms (p :: ex) v d) ∧ RM tb K (upd H p o) ms (p :: ex) M := by
  have k : ∀ b u, H b = some u → b ∉ ms → b ∉ p :: ex → (∀ ps, u ≠ .tbl ps) → upd H p o b = some u := fun b u q _ nb _ => by
    have : b ≠ p := fun z => nb (by rw [z]; exact List.mem_cons_self)
    rw [upd_ne this]
    exact q
  have h1 : ∀ {v d}, RV K H ms (p :: ex) v d → RV K (upd H p o) ms (p :: ex) v d := fun {v d} r => RV.mono (fun _ _ z => z) (fun _ _ _ => ⟨id, .inr⟩) (fun _ z => m.lst z) k r
  have h2 : ∀ {v d}, RVs K H ms (p :: ex) v d → RVs K (upd H p o) ms (p :: ex) v d := fun {v d} r => RVs.mono (fun _ _ z => z) (fun _ _ _ => ⟨id, .inr⟩) (fun _ z => m.lst z) k r
  refine ⟨h1, m.len, m.nd, fun n a ds e1 e2 => ?_, fun b hb => ?_, fun b hb => ?_⟩
  · have : a ≠ p := fun z => (m.exs p List.mem_cons_self).1 (z ▸ List.mem_of_getElem? e1)
    exact (m.at_ n a ds e1 e2).of (fun u q _ => by rw [upd_ne this]; exact q) h2
  · obtain ⟨n1, y⟩ := m.exs b hb
    by_cases e : b = p
    · subst e
      exact ⟨n1, t⟩
    · refine ⟨n1, ?_⟩
      unfold Thing
      rw [upd_ne e]
      exact y
  · obtain ⟨ps, q, y⟩ := m.tbs b hb
    have : b ≠ p := fun z => (m.exs p List.mem_cons_self).2.ne (z ▸ q) (fun _ y => by cases y) (fun _ y => by cases y) fun _ y => by cases y
    exact ⟨ps, by rw [upd_ne this]; exact q, y⟩
theorem lock_grow {p : Addr} {vs : List V} (m : RM tb K H ms (p :: ex) M) : (∀ {v d}, RV K H ms (p :: ex) v d → RV K (upd H p (.lst vs)) ms (p :: ex) v d) ∧ RM tb K (upd H p (.lst vs)) ms (p :: ex) M := lock_growO m (.inl ⟨_, upd_same⟩)
theorem lock_out {p : Addr} (m : RM tb K H ms (p :: ex) M) : (∀ {v d}, RVs K H ms (p :: ex) v d → RVs K H ms ex v d) ∧ RM tb K H ms ex M := by
  have h2 : ∀ {v d}, RVs K H ms (p :: ex) v d → RVs K H ms ex v d := fun {v d} r => RVs.mono (fun _ _ z => z) (fun _ _ _ => ⟨id, fun z => .inr (List.mem_cons_of_mem _ z)⟩) (fun _ z => m.lst z) (fun _ _ q _ _ _ => q) r
  exact ⟨h2, m.len, m.nd, fun n a ds e1 e2 => (m.at_ n a ds e1 e2).of (fun _ q _ => q) h2, fun b hb => m.exs b (List.mem_cons_of_mem _ hb), m.tbs⟩
theorem lock_end {p : Addr} {vs : List V} {ds : List D} (m : RM tb K H ms (p :: ex) M) (hn : p ∉ ex) (e : H p = some (.lst vs)) (r : RVs K H ms (p :: ex) vs ds) : RM tb K H ms ex M ∧ RV K H ms ex (.ref p) (.lst ds) := by
  obtain ⟨h2, m2⟩ := lock_out m
  exact ⟨m2, .lst e (m.exs p List.mem_cons_self).1 hn (h2 r)⟩
theorem lc_rd {J : It} {σ : L2.St} {r : En} {xs ys : List D} {Q : VK} (m : RM tb K H ms ex M) (s : Sl K H ms ex σ r) (hl : xs.length ≤ 1000) (e : lcD ft fb fe (wipeD r vs) xs M = some (ys, M'))
    (q : ∀ H' v, Ext ms H H' → RM tb K H' ms ex M' → RV K H' ms ex v (.lst ys) → Q v H')
    (hgo : ∀ (i : Nat) (H' : Hp) (d : D), Ext ms H H' → xs[i]? = some d → J.go i H' ∧ ∀ x H2, J.yld i H' x H2 → H2 = H' ∧ RV K H ms ex x d) (hst : ∀ H', Ext ms H H' → J.stop xs.length H') :
    ∀ D, H D = none → ∃ W : Nat → Nat → Hp → Prop, (∃ k, W 0 k (upd H D (.lst []))) ∧ ∀ i k H', W i k H' →
      (J.stop i H' ∧ Q (.ref D) H') ∨ (J.go i H' ∧ ∃ Nx : Hp → Prop, (∀ H2, Nx H2 → ∃ k', k' < k ∧ W (i + 1) k' H2) ∧ ∀ x H2, J.yld i H' x H2 → gW K vs ft x (L2.wipe σ vs) H2 fun σ2 H3 => L2.wipe σ2 vs = L2.wipe σ vs ∧ bM tb K fb σ2 H3 fun b H4 =>
        if b = true then eM tb K fe σ2 H4 fun y H5 => ∃ acc, H5 D = some (.lst acc) ∧ acc.length < sizeLine ∧ Nx (upd H5 D (.lst (acc ++ [y]))) else Nx H4) := by
  intro p hp
  obtain ⟨np1, np2⟩ := fresh_ms m hp
  have ww : L2.wipe (L2.wipe σ vs) vs = L2.wipe σ vs := by
    have gen : ∀ (us : List Nat) (σ : L2.St), (∀ i ∈ us, i ∈ vs) → L2.wipe (L2.wipe σ us) vs = L2.wipe σ vs := fun us => by
      induction us with
      | nil => intro σ _; rfl
      | cons u us ih =>
        intro σ hu
        show L2.wipe ((L2.wipe σ us).set u none) vs = _
        rw [wipe_same _ _ _ _ (hu u List.mem_cons_self)]
        exact ih σ fun i hi => hu i (List.mem_cons_of_mem _ hi)
    exact gen vs σ fun _ h => h
  let W : Nat → Nat → Hp → Prop := fun i k H2 => k = xs.length - i ∧ i ≤ xs.length ∧ ∃ Mi aV aD rest, Ext ms H H2 ∧ RM tb K H2 ms (p :: ex) Mi ∧ H2 p = some (.lst aV) ∧ RVs K H2 ms (p :: ex) aV aD ∧ aV.length ≤ i ∧
    lcD ft fb fe (wipeD r vs) (xs.drop i) Mi = some (rest, M') ∧ aD ++ rest = ys
  refine ⟨W, ⟨xs.length, by omega, Nat.zero_le _, M, [], [], ys, Ext.of (same_new hp), lock_new m hp, upd_same, .nil, Nat.le_refl _, e, rfl⟩, ?_⟩
  rintro i k H2 ⟨hk, hi, Mi, aV, aD, rest, x2, m2, ep, ra, hal, ee, hy⟩
  by_cases hlt : i < xs.length
  · obtain ⟨hg, hyl⟩ := hgo i H2 xs[i] x2 (List.getElem?_eq_getElem hlt)
    rw [List.drop_eq_getElem_cons hlt] at ee
    unfold lcD at ee
    split at ee
    · rename_i r2 h2
      refine .inr ⟨hg, W (i + 1) (xs.length - (i + 1)), fun H' hN => ⟨xs.length - (i + 1), by omega, hN⟩, fun x H3 hx => ?_⟩
      obtain ⟨eH, rv⟩ := hyl x H3 hx
      subst eH
      have rv' := rv.lock m hp x2
      have s2 : Sl K H3 ms (p :: ex) (L2.wipe σ vs) (wipeD r vs) := (s.wipe vs).lock m hp x2
      refine ⟨ms, p :: ex, _, xs[i], r2, s2, rv', h2, fun σ2 s3 w3 => ⟨w3.trans ww, ?_⟩⟩
      split at ee
      · rename_i M1 h3
        refine bM.use m2 s3 h3 fun H4 x4 m4 s4 => iteT ?_
        split at ee
        · rename_i y M2 h4
          refine eM.use m4 s4 h4 fun H5 v5 x5 m5 s5 r5 => ?_
          have ep5 : H5 p = some (.lst aV) := x5 p _ (x4 p _ ep np1 fun _ z => by cases z) np1 fun _ z => by cases z
          split at ee
          · rename_i zs M3 h5
            cases ee
            have x25 := (x2.trans x4).trans x5
            obtain ⟨lg, mg⟩ := lock_grow (vs := aV ++ [v5]) m5
            refine ⟨aV, ep5, small1000 (by omega), rfl, hlt, M2, aV ++ [v5], aD ++ [y], zs, x25.grow hp, mg, upd_same, ?_, ?_, h5, ?_⟩
            · have ra5 := (ra.ext m2 x4).ext m4 x5
              have : ∀ {v : List V} {d : List D}, RVs K H5 ms (p :: ex) v d → RVs K (upd H5 p (.lst (aV ++ [v5]))) ms (p :: ex) v d := fun {v d} h => by
                induction d generalizing v with
                | nil => cases h; exact .nil
                | cons d ds ih =>
                  cases h with
                  | cons h1 h2 => exact .cons (lg h1) (ih h2)
              exact (this ra5).append (.cons (lg r5) .nil)
            · rw [List.length_append]
              show aV.length + 1 ≤ i + 1
              omega
            · rw [List.append_assoc]
              exact hy
          · cases ee
        · cases ee
      · rename_i M1 h3
        refine bM.use m2 s3 h3 fun H4 x4 m4 s4 => iteF ?_
        exact ⟨rfl, hlt, M1, aV, aD, rest, x2.trans x4, m4, x4 p _ ep np1 (fun _ z => by cases z), ra.ext m2 x4, by omega, ee, hy⟩
      · cases ee
    · cases ee
  · have ei : i = xs.length := by omega
    subst ei
    rw [List.drop_length] at ee
    cases ee
    rw [List.append_nil] at hy
    subst hy
    obtain ⟨m3, r3⟩ := lock_end m2 np2 ep ra
    exact .inl ⟨hst H2 x2, q H2 _ x2 m3 r3⟩

theorem itt_go0 {vs : List V} {ds : List D} {q : Addr} (m : RM tb K H ms ex M) (sq : SqT K H q vs) (rr : RVs K H ms ex vs ds) (i : Nat) (H' : Hp) (d : D) (x : Ext ms H H') (hd : ds[i]? = some d) :
    (Itt K q).go i H' ∧ ∀ v H2, (Itt K q).yld i H' v H2 → H2 = H' ∧ RV K H ms ex v d := by
  have sq' : SqT K H' q vs := SqT.stay (ms := ms) (ex := ex) (fun _ z => m.lst z) (fun b o e n _ t => x b o e n t) sq
  obtain ⟨v0, h0, rv0⟩ := rr.get hd
  refine ⟨⟨vs, v0, sq', h0⟩, fun v H2 hy => ⟨hy.1, ?_⟩⟩
  have := hy.2 vs sq'
  rw [h0] at this
  cases this
  exact rv0
theorem itl_go0 {vs : List V} {ds : List D} {q : Addr} (m : RM tb K H ms ex M) (sq : H q = some (.lst vs)) (nq : q ∉ ms) (rr : RVs K H ms ex vs ds) (i : Nat) (H' : Hp) (d : D) (x : Ext ms H H') (hd : ds[i]? = some d) :
    (Itl K q).go i H' ∧ ∀ v H2, (Itl K q).yld i H' v H2 → H2 = H' ∧ RV K H ms ex v d := by
  have sq' : SqL K H' q vs := SqL.of (x q _ sq nq fun _ z => by cases z)
  obtain ⟨v0, h0, rv0⟩ := rr.get hd
  refine ⟨⟨vs, v0, sq', h0⟩, fun v H2 hy => ⟨hy.1, ?_⟩⟩
  have := hy.2 vs sq'
  rw [h0] at this
  cases this
  exact rv0
theorem itr_go0 {lo : Int} {n : Nat} (i : Nat) (H' : Hp) (d : D) (hd : (rangeD lo n)[i]? = some d) :
    (Itr lo n).go i H' ∧ ∀ v H2, (Itr lo n).yld i H' v H2 → H2 = H' ∧ RV K H ms ex v d := by
  obtain ⟨h1, h2⟩ := rangeD_get hd
  refine ⟨h1, fun v H2 hy => ⟨hy.1, ?_⟩⟩
  rw [hy.2, h2]
  exact .int _
theorem mt_lcT {σ : L2.St} {Q : VK} (h : eM tb K (mLc itemsT f ft fb fe vs) σ H Q) : tLc (iTup K (eM tb K f)) (gW K vs ft) (bM tb K fb) (eM tb K fe) vs σ H Q := by
  obtain ⟨ms, ex, r, M, o, M', m, s, e, q⟩ := h
  unfold mLc at e
  split at e
  · rename_i d M1 h1
    split at e
    · rename_i xs h2
      split at e
      · rename_i hl
        split at e
        · rename_i ys M2 h3
          cases e
          refine eM.use m s h1 fun H1 v1 x1 m1 s1 r1 => ?_
          unfold itemsT at h2
          split at h2
          · cases h2
            cases r1 with
            | tup sq rr => exact ⟨_, rfl, ⟨_, SqT.of sq⟩, lc_rd m1 s1 hl h3 (fun H2 v x2 m2 r2 => q H2 v (x1.trans x2) m2 r2) (fun i H' d x hd => itt_go0 m1 (SqT.of sq) rr i H' d x hd) (fun H' x => itt_stop m1 (SqT.of sq) rr H' x)⟩
          · cases h2
        · cases e
      · cases e
    · cases e
  · cases e
theorem mt_lcL {σ : L2.St} {Q : VK} (h : eM tb K (mLc itemsL f ft fb fe vs) σ H Q) : tLc (iList K (eM tb K f)) (gW K vs ft) (bM tb K fb) (eM tb K fe) vs σ H Q := by
  obtain ⟨ms, ex, r, M, o, M', m, s, e, q⟩ := h
  unfold mLc at e
  split at e
  · rename_i d M1 h1
    split at e
    · rename_i xs h2
      split at e
      · rename_i hl
        split at e
        · rename_i ys M2 h3
          cases e
          refine eM.use m s h1 fun H1 v1 x1 m1 s1 r1 => ?_
          unfold itemsL at h2
          split at h2
          · cases h2
            cases r1 with
            | lst sq n1 n2 rr => exact ⟨_, rfl, ⟨_, SqL.of sq⟩, lc_rd m1 s1 hl h3 (fun H2 v x2 m2 r2 => q H2 v (x1.trans x2) m2 r2) (fun i H' d x hd => itl_go0 m1 sq n1 rr i H' d x hd) (fun H' x => itl_stop sq n1 rr H' x)⟩
          · cases h2
        · cases e
      · cases e
    · cases e
  · cases e
theorem mt_lcR1 {σ : L2.St} {Q : VK} (h : eM tb K (mLcR rng1 fa ft fb fe vs) σ H Q) : tLc (iRng1 (aM tb K fa)) (gW K vs ft) (bM tb K fb) (eM tb K fe) vs σ H Q := by
  obtain ⟨ms, ex, r, M, o, M', m, s, e, q⟩ := h
  unfold mLcR at e
  split at e
  · rename_i ds M1 h1
    split at e
    · rename_i i j h2
      split at e
      · rename_i hl
        split at e
        · rename_i ys M2 h3
          cases e
          refine aM.use m s h1 fun H1 v1 x1 m1 s1 r1 => ?_
          unfold rng1 at h2
          split at h2
          · split at h2
            · rename_i hb2
              cases h2
              cases r1 with
              | cons r1 rr =>
                cases rr
                cases r1
                refine ⟨j, rfl, by omega, by omega, ?_⟩
                have e0 : (j - 0).toNat = j.toNat := by simp
                rw [e0] at h3 hl
                exact lc_rd m1 s1 (by rw [rangeD_len]; exact hl) h3 (fun H2 v x2 m2 r2 => q H2 v (x1.trans x2) m2 r2) (fun i H' d x hd => itr_go0 i H' d hd) (fun H' x => by rw [rangeD_len]; exact Nat.le_refl _)
            · cases h2
          · cases h2
        · cases e
      · cases e
    · cases e
  · cases e
theorem mt_lcR2 {σ : L2.St} {Q : VK} (h : eM tb K (mLcR rng2 fa ft fb fe vs) σ H Q) : tLc (iRng2 (aM tb K fa)) (gW K vs ft) (bM tb K fb) (eM tb K fe) vs σ H Q := by
  obtain ⟨ms, ex, r, M, o, M', m, s, e, q⟩ := h
  unfold mLcR at e
  split at e
  · rename_i ds M1 h1
    split at e
    · rename_i i j h2
      split at e
      · rename_i hl
        split at e
        · rename_i ys M2 h3
          cases e
          refine aM.use m s h1 fun H1 v1 x1 m1 s1 r1 => ?_
          unfold rng2 at h2
          split at h2
          · split at h2
            · rename_i hb2
              cases h2
              cases r1 with
              | cons r1 rr =>
                cases rr with
                | cons r2 rr =>
                  cases rr
                  cases r1
                  cases r2
                  refine ⟨i, j, rfl, by omega, ?_⟩
                  exact lc_rd m1 s1 (by rw [rangeD_len]; exact hl) h3 (fun H2 v x2 m2 r2 => q H2 v (x1.trans x2) m2 r2) (fun i H' d x hd => itr_go0 i H' d hd) (fun H' x => by rw [rangeD_len]; exact Nat.le_refl _)
            · cases h2
          · cases h2
        · cases e
      · cases e
    · cases e
  · cases e

/-! ### the rules of comprehensions, over any source -/
theorem me_lc {iter elt : Expr} {ifs : List Expr} {scope : Scope} {own : List (Str × Nat)} {wi : TI} {F : FE} (hr : ∀ σ H Q, eM tb X.K F σ H Q → tLc wi (gW X.K (own.map (·.2)) ft) (bM tb X.K fb) (eM tb X.K fe) (own.map (·.2)) σ H Q) (hc : X.calm = true) (hN : X.N.Nodup) (hi : PI X tg iter wi) (ok : BlkOk X.N X.env.scope scope own)
    (hg : ∀ (s : Shared) (H : Hp) (C : Addr) (cl : List (Str × Addr)) (fp : List Addr), PG (X.blk s H scope (compEnvC scope cl C X.env) fp) tg (gW X.K (own.map (·.2)) ft)) (ht : ∀ (s : Shared) (H : Hp) (C : Addr) (cl : List (Str × Addr)) (fp : List Addr), PTs (X.blk s H scope (compEnvC scope cl C X.env) fp) ifs (bM tb X.K fb))
    (he : ∀ (s : Shared) (H : Hp) (C : Addr) (cl : List (Str × Addr)) (fp : List Addr), PE (X.blk s H scope (compEnvC scope cl C X.env) fp) elt (eM tb X.K fe)) (hs : ∀ x, foldedSetIterable iter X.env x = Pure.pure x := by intro _; rfl) :
    PE X (.ListComp elt [⟨tg, iter, ifs, 0⟩] scope pos) (eM tb X.K F) := (pe_lc hc hN hi ok hg ht he hs).weak hr
theorem ms_setLc {i : Nat} {y : Str} {py spos : Pos} {iter elt : Expr} {ifs : List Expr} {scope : Scope} {own : List (Str × Nat)} {wi : TI} {F : FE} (hr : ∀ σ H Q, eM tb X.K F σ H Q → tLc wi (gW X.K (own.map (·.2)) ft) (bM tb X.K fb) (eM tb X.K fe) (own.map (·.2)) σ H Q)
    (hc : X.calm = true) (hN : X.N.Nodup) (hy : X.N[i]? = some y) (hyl : X.env.scope.names.lookup y = some .local) (hsw : swapsWith (.ListComp elt [⟨tg, iter, ifs, 0⟩] scope pos) (some (.Name y py)) spos.line X.env = Pure.pure true) (hi : PI X tg iter wi) (ok : BlkOk X.N X.env.scope scope own)
    (hg : ∀ (s : Shared) (H : Hp) (C : Addr) (cl : List (Str × Addr)) (fp : List Addr), PG (X.blk s H scope (compEnvC scope cl C X.env) fp) tg (gW X.K (own.map (·.2)) ft)) (ht : ∀ (s : Shared) (H : Hp) (C : Addr) (cl : List (Str × Addr)) (fp : List Addr), PTs (X.blk s H scope (compEnvC scope cl C X.env) fp) ifs (bM tb X.K fb))
    (he : ∀ (s : Shared) (H : Hp) (C : Addr) (cl : List (Str × Addr)) (fp : List Addr), PE (X.blk s H scope (compEnvC scope cl C X.env) fp) elt (eM tb X.K fe)) (hs : ∀ x, foldedSetIterable iter X.env x = Pure.pure x := by intro _; rfl) :
    PS X (.Assign [.Name y py] (.ListComp elt [⟨tg, iter, ifs, 0⟩] scope pos) spos) (sM tb X.K (mSet i F)) := (ps_setLc hc hN hy hyl hsw hi ok hg ht he hs).weak fun E σ H h => hr σ H _ (mt_set h)

/-! ### a def -/
theorem start_sl {N : List Str} {v : List V} {ds : List D} (r : RVs K H ms ex v ds) : Sl K H ms ex (L2.start N v) (startD N.length ds) := by
  have hl := r.length
  refine ⟨by simp [L2.start, startD, hl], fun i d e => ?_⟩
  unfold startD at e
  by_cases hi : i < ds.length
  · rw [List.getElem?_append_left (by simpa using hi), List.getElem?_map] at e
    cases h : ds[i]? with
    | none => rw [h] at e; cases e
    | some d' =>
      rw [h] at e
      cases e
      obtain ⟨w, h1, h2⟩ := r.get h
      refine ⟨w, ?_, h2⟩
      unfold L2.start
      rw [List.getElem?_append_left (by simpa [hl] using hi), List.getElem?_map, h1]
      rfl
  · rw [List.getElem?_append_right (by simpa using hi), List.getElem?_replicate] at e
    split at e <;> cases e
variable {P : Program} {w : World} {mg : Str → Option Value} {base : Heap}
theorem m_fn {x qual : Str} {st : Stmt} {q : Addr} {fd : FuncData} {N ps : List Str} {k : Nat} (F : Fun K x qual st q fd) (S : FnScope N ps (defScope st))
    (hb : ∀ (cdv : Value) (A : Around) (outer : List Env) (s : Shared) (H : Hp) (E : XK), Room k (A.deeper (envOfC qual (defScope st) s.heap.objs.size q cdv)) →
      PSs (cxOf CX0 P w K mg base N qual (defScope st) q cdv A outer s H E).nox (defBody st) (sM tb K fs)) : FnOk P w K mg base CX0 (k + 1) q fd ps (spM tb K ps.length (mFun N.length fs)) := by
  refine F.ok S (fun vs H Q E h => ?_) (fun cdv A outer s H vs Q E hr h => ⟨sM tb K fs, hb cdv A outer s H E hr, ?_⟩)
  · obtain ⟨ms, ex, M, ds, d, M', m, r, hl, _⟩ := h
    rw [r.length, hl]
  · obtain ⟨ms, ex, M, ds, d, M', m, r, hl, e, hq⟩ := h
    unfold mFun at e
    split at e
    · rename_i d1 M1 h1
      cases e
      exact sM.use m (start_sl r) h1 fun H1 x1 m1 v rv => hq H1 v x1 m1 rv
    · rename_i r1 M1 h1
      cases e
      exact sM.use m (start_sl r) h1 fun H1 x1 m1 σ' _ => hq H1 .non x1 m1 .non
    · cases e

/-! ### a def that hands back a new list; a name that holds it and may change it -/
abbrev FL := List D → MM → Option (List D × MM)
def spF (tb : List Addr) (K : PySem.W.Frag) (n : Nat) (g : FL) : Sp := fun vs H Q _ => ∃ ms ex M ds ys M', RM tb K H ms ex M ∧ RVs K H ms ex vs ds ∧ ds.length = n ∧ g ds M = some (ys, M') ∧
  ∀ H' p xs, Ext ms H H' → RM tb K H' ms ex M' → H p = none → H' p = some (.lst xs) → RVs K H' ms ex xs ys → Q (.ref p) H'
def mFunF (n : Nat) (f : FS) (fa : FA) : FL := fun ds M => match f (startD n ds) M with
  | some (.nx r, M1) => fa r M1
  | _ => none
theorem m_fnF {x qual : Str} {st s1 : Stmt} {p1 p2 : Pos} {q : Addr} {fd : FuncData} {N ps : List Str} {k : Nat} (F : Fun K x qual st q fd) (S : FnScope N ps (defScope st)) (hbd : defBody st = [s1, .Return (some (.List es p1)) p2]) (hn : ∀ r M ds M', fa r M = some (ds, M') → ds.length ≤ 1000)
    (hb : ∀ (cdv : Value) (A : Around) (outer : List Env) (s : Shared) (H : Hp) (E : XK), Room k (A.deeper (envOfC qual (defScope st) s.heap.objs.size q cdv)) →
      PS (cxOf CX0 P w K mg base N qual (defScope st) q cdv A outer s H E).nox s1 (sM tb K fs) ∧ PA (cxOf CX0 P w K mg base N qual (defScope st) q cdv A outer s H E).nox es (aM tb K fa)) : FnOk P w K mg base CX0 (k + 1) q fd ps (spF tb K ps.length (mFunF N.length fs fa)) := by
  refine F.ok S (fun vs H Q E h => ?_) (fun cdv A outer s H vs Q E hr h => ?_)
  · obtain ⟨ms, ex, M, ds, d, M', m, r, hl, _⟩ := h
    rw [r.length, hl]
  · obtain ⟨h1, h2⟩ := hb cdv A outer s H E hr
    refine ⟨_, by rw [hbd]; exact pss_cons h1 (pss_one (ps_ret (pe_lst h2))), ?_⟩
    obtain ⟨ms, ex, M, ds, ys, M', m, r, hl, e, hq⟩ := h
    unfold mFunF at e
    split at e
    · rename_i r1 M1 g1
      refine sM.use m (start_sl r) g1 fun H1 x1 m1 σ1 s1 => ?_
      refine aM.use m1 s1 e fun H2 v2 x2 m2 s2 r2 => ⟨r2.small (hn _ _ _ _ e), fun p hp => ?_⟩
      have hp0 : H p = none := (x1.trans x2).gone (fresh_ms m2 hp).1 hp
      have sm := same_new (o := HO.lst v2) hp
      exact hq _ p v2 ((x1.trans x2).trans (Ext.of sm)) (m2.same sm) hp0 upd_same (r2.ext m2 (Ext.of sm))
    · cases e
def plainD : D → Bool
  | .non => true
  | .bl _ => true
  | .int _ => true
  | .str _ => true
  | _ => false
/-- x = f(..), f hands back a new list, no other list may change so far; the rest of the block -/
def mMu (i : Nat) (g : FL) (fa : FA) (f : FS) : FS := fun r M => match fa r M with
  | some (ds, []) => match g ds [] with
    | some (ys, []) => if ys.all plainD then match f (r.set i (some (.mu 0))) [.lst ys] with
        | some (.rt d, _) => if plainD d then some (.rt d, []) else none
        | _ => none
      else none
    | _ => none
  | _ => none
/-- the list at p, just made, may change from now on -/
theorem push_rv {p : Addr} (m0 : RM tb K H ms ex M) (hp : H p = none) (x : Ext ms H H') {v : V} {d : D} (rv : RV K H ms ex v d) : RV K H' (ms ++ [p]) ex v d := by
  refine RV.mono (fun n a e => ?_) (fun a o e => ⟨fun z => ?_, Or.inr⟩) (fun _ z => m0.lst z) (fun b o q n _ t => x b o q n t) rv
  · rw [List.getElem?_append_left (List.getElem?_eq_some_iff.mp e).1]
    exact e
  · rcases List.mem_append.mp z with z | z
    · exact z
    · have : a = p := by simpa using z
      rw [this, hp] at e
      cases e
theorem plain_rv {v : V} {d : D} (h : plainD d = true) (rv : RV K H ms' ex v d) : RV K H' ms ex v d := by
  cases rv with
  | non => exact .non
  | bl b => exact .bl b
  | int i => exact .int i
  | str z => exact .str z
  | tup _ _ => cases h
  | lst _ _ _ _ => cases h
  | fz _ _ => cases h
  | mu _ => cases h
  | dk _ _ _ _ _ => cases h
  | dt _ _ _ _ _ => cases h
  | ins _ _ _ _ _ => cases h
  | ct _ _ => cases h
theorem plain_rvs : ∀ {v : List V} {d : List D}, d.all plainD = true → RVs K H ms' ex v d → RVs K H' ms ex v d
  | _, _, _, .nil => .nil
  | _, _, h, .cons a b => .cons (plain_rv (Bool.and_eq_true_iff.mp h).1 a) (plain_rvs (Bool.and_eq_true_iff.mp h).2 b)
theorem mss_mu {CX : CXT} {k n i : Nat} {fA : Addr} {fd : FuncData} {ps : List Str} {x y : Str} {py p pos' : Pos} {gl : FL} {E : XK} (F : FnOk X.prog X.w X.K X.mg X.base CX k fA fd ps (spF tb X.K n gl)) (hr : Room k X.A) (hgl : Gl X x) (hm : X.mg x = some (.ref fA)) (hk : PySem.W.keepIn X.K (.ref fA) = true)
    (hb : Binds X.K fd ps []) (hx : Passes CX X E) (ha : PA X (a :: es) (aM tb X.K fa)) (hl : ∀ r M ds M', fa r M = some (ds, M') → ds.length = n)
    (hN : X.N.Nodup) (hi : X.N[i]? = some y) (hly : Loc X.env.scope y) (hrest : PSs X sts (sM tb X.K fs))
    (hf : X.fn y = true ∨ X.env.scope.names.lookup y = some .local := by first | exact .inl rfl | exact .inr rfl | assumption) (hdb : (x == ("__debug__" : Str)) = false := by decide)
    (he : starEach (a :: es) X.env = (false, eval a X.env) :: starEach es X.env := by rfl) (hpl : (backTo pos (starEach es X.env)).any (·.1) = false := by rfl)
    (hsw : swapsWithSole [.Name y py] (.Call (.Name x p) (a :: es) [] pos) pos'.line X.env = Pure.pure false := by rfl) (hsw2 : swappedStores [.Name y py] (.Call (.Name x p) (a :: es) [] pos) X.env = Pure.pure none := by rfl)
    (h1 : (assignEach [.Name y py] X.env).map (·.2) = [assign (.Name y py) X.env] := by rfl) :
    PSs X (.Assign [.Name y py] (.Call (.Name x p) (a :: es) [] pos) pos' :: sts) (sM tb X.K (mMu i gl fa fs)) :=
  (pss_cons (ps_asg (pe_call F hr hgl hm hk hb .nil hx ha hdb he hpl) (pg_name hN hi hly hf) hsw hsw2 h1) hrest).weak fun EE σ H h => by
    obtain ⟨ms, ex, r, M, o, M', m, s, e, q⟩ := h
    unfold mMu at e
    split at e
    · rename_i ds h1
      split at e
      · rename_i ys h2
        split at e
        · rename_i hpl2
          split at e
          · rename_i d M3 h3
            split at e
            · rename_i hp
              cases e
              refine aM.use m s h1 fun H1 v1 x1 m1 s1 r1 => ?_
              refine ⟨ms, ex, [], ds, ys, [], m1, ?_, hl _ _ _ _ h1, h2, fun H2 a2 xs x2 m2 n2 e2 r2 => ?_⟩
              · rw [List.append_nil]
                exact r1
              · have hms : ms = [] := List.eq_nil_of_length_eq_zero m2.len
                subst hms
                obtain ⟨na1, na2⟩ := fresh_ms m1 n2
                refine sM.use (ms := [a2]) (ex := ex) (M := [.lst ys]) (r := r.set i (some (.mu 0))) ⟨rfl, by simp, fun n a ds' e1 e3 => ?_, fun b hb => ?_, m2.tbs⟩ ?_ h3 fun H3 x3 m3 v3 rv3 => ?_
                · cases n with
                  | zero =>
                    cases e1
                    cases e3
                    exact .lst e2 (plain_rvs hpl2 r2)
                  | succ n => simp at e1
                · refine ⟨fun z => ?_, (m2.exs b hb).2⟩
                  have : b = a2 := by simpa using z
                  exact na2 (this ▸ hb)
                · refine Sl.set ⟨s1.len, fun j d' ej => ?_⟩ (.mu rfl)
                  obtain ⟨w, g1, g2⟩ := s1.at_ j d' ej
                  exact ⟨w, g1, push_rv (ms := []) m1 n2 x2 g2⟩
                · have out : ∀ b o, H b = some o → b ∉ [a2] := fun b o eb z => by
                    have z : b = a2 := by simpa using z
                    have := x1.gone (ms := []) (by simp) n2
                    rw [← z, eb] at this
                    cases this
                  refine q H3 ⟨fun b o eb nb t => x3 b o (x2 b o (x1 b o eb (by simp) t) (by simp) t) (out b o eb) t, fun b ps eb nb => ?_⟩ ⟨rfl, by simp, fun n a ds' e1 _ => by simp at e1, fun b hb => ⟨by simp, (m3.exs b hb).2⟩, m3.tbs⟩ v3 (plain_rv hp rv3)
                  obtain ⟨p1, y1⟩ := x1.tab b ps eb (by simp)
                  obtain ⟨p2, y2⟩ := x2.tab b p1 y1 (by simp)
                  exact x3.tab b p2 y2 (out b _ eb)
            · cases e
          · cases e
        · cases e
      · cases e
    · cases e
end
end NL
namespace NL
open PySem PySem.Spec PyProof.Rows L2
section
variable {X : Cx} {pos : Pos} {a b c : Expr} {fa : FA}
theorem ms_par2 {i j : Nat} {x y : Str} {px py pt : Pos} {kt k2 pt2} (hc : X.calm = true) (hN : X.N.Nodup) (hi : X.N[i]? = some x) (hj : X.N[j]? = some y) (hij : i ≠ j)
    (hx : X.env.scope.names.lookup x = some .local) (hy : X.env.scope.names.lookup y = some .local) (ha : PA X [a, b] (aM tb X.K fa))
    (hw : swappedStores [.Tuple [.Name x px, .Name y py] kt pt] (.Tuple [a, b] k2 pt2) X.env = Pure.pure (some [x, y]))
    (hs : swapsWithSole [.Tuple [.Name x px, .Name y py] kt pt] (.Tuple [a, b] k2 pt2) pos.line X.env = Pure.pure false := by rfl) :
    PS X (.Assign [.Tuple [.Name x px, .Name y py] kt pt] (.Tuple [a, b] k2 pt2) pos) (sM tb X.K (mPar2 i j fa)) := (ps_par hc hN hi hj hij hx hy ha hw hs).weak fun _ _ _ h => mt_par2 h
theorem ms_par3 {i j l : Nat} {x y z : Str} {px py pz pt : Pos} {kt k2 pt2} (hc : X.calm = true) (hN : X.N.Nodup) (hi : X.N[i]? = some x) (hj : X.N[j]? = some y) (hl : X.N[l]? = some z) (hij : i ≠ j) (hil : i ≠ l) (hjl : j ≠ l)
    (hx : X.env.scope.names.lookup x = some .local) (hy : X.env.scope.names.lookup y = some .local) (hz : X.env.scope.names.lookup z = some .local) (ha : PA X [a, b, c] (aM tb X.K fa))
    (hw : swappedStores [.Tuple [.Name x px, .Name y py, .Name z pz] kt pt] (.Tuple [a, b, c] k2 pt2) X.env = Pure.pure (some [x, y, z]))
    (hs : swapsWithSole [.Tuple [.Name x px, .Name y py, .Name z pz] kt pt] (.Tuple [a, b, c] k2 pt2) pos.line X.env = Pure.pure false := by rfl) :
    PS X (.Assign [.Tuple [.Name x px, .Name y py, .Name z pz] kt pt] (.Tuple [a, b, c] k2 pt2) pos) (sM tb X.K (mPar3 i j l fa)) := (ps_par3 hc hN hi hj hl hij hil hjl hx hy hz ha hw hs).weak fun _ _ _ h => mt_par3 h
end
theorem room65 {k : Nat} {A : Around} (r : Room k A) : A.units + 65 < cLine := by
  have := r.un
  omega
theorem fn0 {P : Program} {w : World} {K : PySem.W.Frag} {mg : Str → Option Value} {base : Heap} {f : Addr} {fd : FuncData} {ps : List Str} {n : Nat} : FnOk P w K mg base CX0 0 f fd ps (spM tb K n fun _ _ => none) := by
  refine ⟨fun vs H Q E h => ?_, fun A outer s H args us vs Q E hr he hb hv hs => ?_⟩
  · obtain ⟨ms, ex, M, ds, d, M', m, r, hl, e, _⟩ := h
    cases e
  · obtain ⟨ms, ex, M, ds, d, M', m, r, hl, e, _⟩ := hs
    cases e
end NL

/-! HX1: `<` upon two pairs of ints. -/
namespace HX
open PySem PySem.Spec PyProof.Rows L2
/-- the lesser of two pairs -/
def pairLt (i j k l : Int) : Bool := if i = k then decide (j < l) else decide (i < k)
def rLtP (K : PySem.W.Frag) : R2 := fun x y H Q => ∃ p q i j k l, x = .ref p ∧ y = .ref q ∧ SqT K H p [.int i, .int j] ∧ SqT K H q [.int k, .int l] ∧ Q (.bl (pairLt i j k l)) H
theorem two_ints {us : List Value} {i j : Int} (r : Vals [V.int i, V.int j] us) : ∃ t t', us = [.int i t, .int j t'] := by
  cases r with
  | cons a r1 => cases r1 with
    | cons b r2 =>
      cases r2
      obtain ⟨t, rfl⟩ := a
      obtain ⟨t', rfl⟩ := b
      exact ⟨t, t', rfl⟩
theorem eqI (A : Around) (s : Shared) (i k : Int) (t u : Tok) : SeqAt.EqAt A s (.int i t) (.int k u) (decide (i = k)) := by
  have same : (i == k) = decide (i = k) := by
    rw [Bool.eq_iff_iff]
    simp
  exact same ▸ SeqAt.EqAt.int_int i t k u
theorem op_ltP {X : Cx} (room : X.A.units < cLine) : OpR X (compareOp .Lt) (rLtP X.K) := by
  rintro pins s σ H x y v u Q I rx ry ⟨p, q, i, j, k, l, rfl, rfl, hp, hq, hQ⟩
  have ev : v = .ref p := rx
  have eu : u = .ref q := ry
  obtain ⟨us, r1, ip, _⟩ := I.tuple hp
  obtain ⟨ws, r2, iq, _⟩ := I.tuple hq
  obtain ⟨t1, t2, rfl⟩ := two_ints r1
  obtain ⟨t3, t4, rfl⟩ := two_ints r2
  let e : Nat → Bool := fun n => if n = 0 then decide (i = k) else decide (j = l)
  let r : Nat → Bool := fun n => if n = 0 then decide (i < k) else decide (j < l)
  have same : ∀ n (h1 : n < ([Value.int i t1, .int j t2].toArray).size) (h2 : n < ([Value.int k t3, .int l t4].toArray).size), SeqAt.EqAt X.A.in1 s ([Value.int i t1, .int j t2].toArray)[n] ([Value.int k t3, .int l t4].toArray)[n] (e n) := by
    intro n h1 h2
    match n, h1, h2 with
    | 0, _, _ => exact eqI _ _ i k t1 t3
    | 1, _, _ => exact eqI _ _ j l t2 t4
  have less : ∀ n (h1 : n < ([Value.int i t1, .int j t2].toArray).size) (h2 : n < ([Value.int k t3, .int l t4].toArray).size), e n = false → Ob.RcOp .Lt X.A.in1 s ([Value.int i t1, .int j t2].toArray)[n] ([Value.int k t3, .int l t4].toArray)[n] (r n) := by
    intro n h1 h2 _
    match n, h1, h2 with
    | 0, _, _ => exact Ob.RcOp.lt_int i k t1 t3
    | 1, _, _ => exact Ob.RcOp.lt_int j l t2 t4
  have all := Ob.RcOp.tuples_lt ip iq room same less X.prog X.w X.xe (EP X pins σ Q)
  rw [ev, eu]
  refine all ⟨.bl (pairLt i j k l), H, I, ?_, hQ⟩
  have step : Ob.lexAt e r (decide (2 < 2)) 0 2 = pairLt i j k l := by
    have h0 : e 0 = decide (i = k) := rfl
    have h1 : r 0 = decide (i < k) := rfl
    have h2 : e 1 = decide (j = l) := rfl
    have h3 : r 1 = decide (j < l) := rfl
    rw [Ob.lexAt_succ, Ob.lexAt_succ, Ob.lexAt_zero, h0, h1, h2, h3]
    unfold pairLt
    by_cases a : i = k
    · by_cases b : j = l
      · subst b
        simp [a]
      · simp [a, b]
    · simp [a]
  show Value.bool _ = Value.bool _
  exact congrArg Value.bool step
end HX

/-! HX2: a dict comprehension with keys of any sort that a dict is told by (ints and texts, or tuples of them). -/
namespace HX
open PySem PySem.Spec PyProof.Rows L2
/-- what a dict made anew is told by -/
inductive Fresh : HO → Prop
  | k : Fresh (.dK [])
  | t : Fresh (.dT [])
theorem Fresh.okd {P : Program} {w : World} {H : Hp} {o : HO} (f : Fresh o) (h : Heap) (big : sysModules < h.objs.size) : ObjOk P w H (h.push { cls := .type "dict", data := .dict #[] }) h.objs.size o := by
  cases f with
  | k => exact dk_empty h big
  | t => exact dt_empty h big
section
variable {X : Cx} {pins : List (Addr × Obj)} {σ : L2.St} {H : Hp} {s : Shared}
/-- one store of a comprehension -/
theorem put_dict {E : Value → Shared → Prop} {d : Addr} {y z : V} {ky vz : Value} {H' : Hp} {Q : Unit → Shared → Prop} (room : X.A.units + 1 < cLine) (I : Inv X pins σ H s) (g : DPut H d y z H') (r1 : RelV y ky) (r2 : RelV z vz)
    (q : ∀ s', Inv X pins σ H' s' → Q () s') : wpAny (model X.prog X.w) X.A (dictSet d ky vz) Q E s := by
  rcases g with ⟨kvs, k, e, rfl, few, rfl⟩ | ⟨kvs, k, b, e, rfl, eb, few, rfl⟩
  · exact d_dictSet I e few r1 r2 q
  · have eu : ky = Value.ref b := r1
    rw [eu]
    obtain ⟨n1, ns, xs, kt, all⟩ := dt_of I.hok e
    have n2 : xs.length ≤ sizeLine := Paired.length kt ▸ n1
    have n3 : (putK kvs k z).length ≤ sizeLine := by
      have := length_putK kvs k z
      omega
    refine wpAny_dictSet_heap (hsz := n2) (Nat.lt_of_succ_lt room) (key_of I.hok eb) all fun h1 now sb => q _ ?_
    obtain ⟨ob, es, ep, got, c1, c2, c3, _, c5⟩ := now
    have kt' : KT (upd H d (.dT (putK kvs k z))) _ _ := (kt.put k eb r2).keeps fun c ys ec => (upd_ne (ne_of ec e fun z => nomatch z)).trans ec
    exact d_write I (by rw [e]; exact True.intro) sb ⟨ob, got⟩ ⟨n3, ns, _, kt', ob, es, ep, got, c1, c2, c3, c5⟩
end
section
variable {X : Cx}
/-- what a turn asks -/
def turnX (g : TG) (tt : TT) (tk tv : TE) (vs : List Nat) (σ : L2.St) (d : Addr) (x : V) (H : Hp) (Nx : Hp → Prop) : Prop :=
  g x (wipe σ vs) H fun σ2 H2 => wipe σ2 vs = wipe σ vs ∧ tt σ2 H2 fun b H3 =>
    if b = true then tk σ2 H3 fun y H4 => tv σ2 H4 fun z H5 => ∃ H6, DPut H5 d y z H6 ∧ Nx H6 else Nx H3
/-- {k: v for target in iter if ..}: o0 is what the new dict is told by -/
def tDx (o0 : HO) (wi : TI) (g : TG) (tt : TT) (tk tv : TE) (vs : List Nat) : TE := fun σ H Q => wi σ H fun J H1 => ∀ d, H1 d = none → ∃ W : Nat → Nat → Hp → Prop, (∃ m, W 0 m (upd H1 d o0)) ∧
  ∀ i m H, W i m H → (J.stop i H ∧ Q (.ref d) H) ∨ (J.go i H ∧ ∃ Nx : Hp → Prop, (∀ H', Nx H' → ∃ m', m' < m ∧ W (i + 1) m' H') ∧ ∀ x H', J.yld i H x H' → turnX g tt tk tv vs σ d x H' Nx)
/-- the parts of the comprehension, in its own block -/
structure PartsX (X : Cx) (scope : Scope) (tg kx vx : Expr) (ifs : List Expr) (g : TG) (tt : TT) (tk tv : TE) : Prop where
  tg : ∀ (s : Shared) (H : Hp) (C : Addr) (cl : List (Str × Addr)) (fp : List Addr), PG (X.blk s H scope (compEnvC scope cl C X.env) fp) tg g
  ifs : ∀ (s : Shared) (H : Hp) (C : Addr) (cl : List (Str × Addr)) (fp : List Addr), PTs (X.blk s H scope (compEnvC scope cl C X.env) fp) ifs tt
  key : ∀ (s : Shared) (H : Hp) (C : Addr) (cl : List (Str × Addr)) (fp : List Addr), PE (X.blk s H scope (compEnvC scope cl C X.env) fp) kx tk
  val : ∀ (s : Shared) (H : Hp) (C : Addr) (cl : List (Str × Addr)) (fp : List Addr), PE (X.blk s H scope (compEnvC scope cl C X.env) fp) vx tv
theorem pe_dx {o0 : HO} (fr : Fresh o0) {kx vx tg iter : Expr} {ifs : List Expr} {scope : Scope} {own : List (Str × Nat)} {pos : Pos} {wi : TI} {g : TG} {tt : TT} {tk tv : TE} (calm : X.calm = true) (room : X.A.units + 1 < cLine) (nd : X.N.Nodup) (hi : PI X tg iter wi) (ok : BlkOk X.N X.env.scope scope own)
    (pt : PartsX X scope tg kx vx ifs g tt tk tv) (fold : ∀ x, foldedSetIterable iter X.env x = pure x := by intro _; rfl) :
    PE X (.DictComp kx vx [⟨tg, iter, ifs, 0⟩] scope pos) (tDx o0 wi g tt tk tv (own.map (·.2))) := by
  refine ⟨fun pins s σ H Q I h => ?_⟩
  rw [arm_eval_DictComp]
  have clo : ∀ y ∈ scope.names, y.2 = .free → ∃ c, X.env.cells.lookup y.1 = some c := by
    intro y hy e
    rcases ok.free y hy e with a | a
    · exact I.ok.has _ (.inl a)
    · exact I.ok.has _ (.inr a)
  refine wpAny_comprehension_free (use := none) rfl fold (closure_ok clo) ok.kind (fun y hy e => by rw [ok.uniq y hy, e]) ?_
  refine thn (hi.run pins s σ H _ I h) fun xv s1 hx => thn hx fun itv s2 got => ?_
  obtain ⟨it, fp, tn, J, H2, rfl, I2, T, at2, out2, q⟩ := got
  refine wpAny_newObj_type (newEnv_comp ?_)
  generalize ed : s2.heap.objs.size = d
  have dn : H2 d = none := I2.hok.fresh (Nat.le_of_eq ed)
  obtain ⟨W, ⟨m0, w0⟩, turn⟩ := q d dn
  generalize e3 : ({ s2 with heap := s2.heap.push { cls := .type "dict", data := .dict #[] } } : Shared) = s3
  have p3 : s3.heap = s2.heap.push { cls := .type "dict", data := .dict #[] } := by rw [← e3]
  have I3 : Inv X pins σ (upd H2 d o0) s3 := by
    rw [← e3, ← ed]
    exact I2.laid (t' := s2.toks) (fun b o z => Heap.get?_push_of_some _ z) (Nat.le_refl _) (fr.okd s2.heap I2.big)
  have old : ∀ b ∈ fp, b < s2.heap.objs.size := fun b hb => (T.obj _ _ at2 b hb).elim fun o z => Heap.lt_size z.1
  have out3 : ∀ b ∈ fp, FpOk X pins (upd H2 d o0) b ∧ b < s3.heap.objs.size := by
    intro b hb
    have lt := old b hb
    have nb : b ≠ d := by rw [← ed]; exact Nat.ne_of_lt lt
    exact ⟨⟨(upd_ne nb).trans (out2 b hb).1, (out2 b hb).2⟩, by rw [p3, Heap.size_push]; exact Nat.lt_succ_of_lt lt⟩
  have at3 : tn 0 s3.heap := T.keep _ _ _ at2 fun b _ o z => by rw [p3]; exact Heap.get?_push_of_some _ z
  have I4 := block_start I3 ok nd out3
  generalize ecl : cellsFrom (s3.heap.objs.size + 1) scope.names (cloFrom X.env.cells scope.names []) = cl at I4 ⊢
  have kg := pt.tg s3 (upd H2 d o0) s3.heap.objs.size cl fp
  have kt := pt.ifs s3 (upd H2 d o0) s3.heap.objs.size cl fp
  have kk := pt.key s3 (upd H2 d o0) s3.heap.objs.size cl fp
  have kv := pt.val s3 (upd H2 d o0) s3.heap.objs.size cl fp
  show codeAny _ _ (.compStart _ 0 (.ref it) (.ref d) (compEnvC scope cl s3.heap.objs.size X.env)) (compPost _ _ _ none _ (.ref d) s3.heap.objs.size) { s3 with heap := pushCells (s3.heap.push { cls := .type "dict", data := .dict #[] }) scope.names }
  generalize ece : compEnvC scope cl s3.heap.objs.size X.env = ce at I4 kg kt kk kv ⊢
  have loc : ce.locals = s3.heap.objs.size := by rw [← ece]; rfl
  generalize eH : upd H2 d o0 = H3 at I3 I4 kg kt kk kv w0 out3
  generalize e4 : ({ s3 with heap := pushCells (s3.heap.push { cls := .type "dict", data := .dict #[] }) scope.names } : Shared) = s4 at I4 ⊢
  have at4 : tn 0 s4.heap := T.keep _ _ _ at3 fun b _ o z => by rw [← e4]; exact pushCells_keeps _ _ _ _ (Heap.get?_push_of_some _ z)
  have out : ∀ {σ' : L2.St} {H' : Hp} {s' : Shared}, Inv (X.blk s3 H3 scope ce fp) [] σ' H' s' → (∀ b ∈ fp, H' b = none) → ∀ b ∈ fp, FpOk (X.blk s3 H3 scope ce fp) [] H' b := by
    intro σ' H' s' I' hn b hb
    have x1 := I'.ok.exf b hb
    exact ⟨hn b hb, x1.1, I'.ok.exfs b hb, .inl hb, fun x c z => x1.2 x c z, fun p hp => absurd (show p ∈ ([] : List (Addr × Obj)) ++ [] from hp) (by simp)⟩
  have loop : codeAny (model X.prog X.w) X.A (.compLoop (.DictComp kx vx [⟨tg, iter, ifs, 0⟩] scope pos) 0 (.ref it) (.ref d) ce)
      (compPost (model X.prog X.w) X.A X.xe none (EP X pins σ Q) (.ref d) s3.heap.objs.size) s4 := by
    refine compLoop_anyD (fun n t => ∃ i H', Inv (X.blk s3 H3 scope ce fp) [] (wipe σ (own.map (·.2))) H' t ∧ tn i t.heap ∧ (∀ b ∈ fp, H' b = none) ∧ W i n H') ?_ m0 ⟨0, H3, I4, at4, fun b hb => (out3 b hb).1.1, w0⟩
    rintro n s5 ⟨i, H5, I5, at5, n5, w5⟩
    rcases turn i n H5 w5 with ⟨stop, done⟩ | ⟨go, Nx, next, step⟩
    · refine thnF (T.done (X.blk s3 H3 scope ce fp) rfl rfl rfl calm i [] s5 _ H5 (fun _ _ => False) I5 (out I5 n5) at5 stop) ?_
      rintro r s6 ⟨rfl, I6⟩
      have I7 : Inv X pins σ H5 s6 := I3.call' (ch := fp) I6.os I6.base I6.hok I6.bare (by
        intro b hb
        have z := (out3 b hb).1
        exact ⟨z.2.2.2.1, z.2.1, z.2.2.2.2.1, z.2.2.2.2.2⟩)
      have free : H5 s3.heap.objs.size = none := by
        have z : H5 ce.locals = none := I6.free
        rwa [loc] at z
      obtain ⟨m, ns, _⟩ := I6.loc
      have ns : s6.heap.Ns ce.locals m := ns
      rw [loc] at ns
      obtain ⟨f0, f1, _, f3, f4, f5⟩ := I3.fpOk (Nat.le_refl _) free
      exact ⟨m, ns, fun h'' sb => ⟨.ref d, H5, I7.turned (t' := s6.toks) (fun b o hb z => (sb.2 b hb).trans z) f0 f1 f3 f4 f5, rfl, done⟩⟩
    · refine thnF (T.item (X.blk s3 H3 scope ce fp) rfl rfl rfl calm i [] s5 _ H5 (fun _ _ => False) I5 (out I5 n5) at5 go) ?_
      rintro r s6 ⟨u, rfl, h6⟩
      refine thnF h6 ?_
      rintro _ s7 ⟨x, H7, I7, r7, y7, at7, n7⟩
      have pinned := I7.pinned (out I7 n7) (T.obj _ _ at7)
      refine thnF (kg.run _ s7 _ H7 x u _ pinned r7 (step x H7 y7)) ?_
      rintro _ s8 ⟨σ8, H8, I8, w8, q8⟩
      refine thnF (kt.run _ s8 σ8 H8 _ I8 q8) ?_
      rintro b s9 ⟨H9, I9, q9⟩
      have back : ∀ {t : Shared} {H' : Hp}, Inv (X.blk s3 H3 scope ce fp) ([] ++ pinsAt fp s7.heap) σ8 H' t → Nx H' →
          ∃ m, m < n ∧ ∃ i H', Inv (X.blk s3 H3 scope ce fp) [] (wipe σ (own.map (·.2))) H' t ∧ tn i t.heap ∧ (∀ b ∈ fp, H' b = none) ∧ W i m H' := by
        intro t H' It nx
        obtain ⟨m', less, w'⟩ := next H' nx
        have still : ∀ b ∈ fp, ∀ o, s7.heap.get? b = some o → t.heap.get? b = some o ∧ H' b = none := by
          intro b hb o z
          have y := It.pin (b, o) (List.mem_append_right _ (List.mem_append_right _ (mem_pinsAt hb z)))
          exact ⟨y.1, y.2.1⟩
        have len : (wipe σ (own.map (·.2))).length = σ8.length := by rw [← w8, wipe_length]
        refine ⟨m', less, i + 1, H', It.unpinned (pins := []) |>.weak len ?_, ?_, ?_, w'⟩
        · intro j v z
          rw [← w8] at z
          exact (wipe_some z).1
        · exact T.keep _ _ _ at7 fun b hb o z => (still b hb o z).1
        · intro b hb
          obtain ⟨o, z, _⟩ := T.obj _ _ at7 b hb
          exact (still b hb o z).2
      cases b with
      | false => exact back I9 (by simpa using q9)
      | true =>
        have q9 := (if_pos rfl).mp q9
        refine thnF (kk.run _ s9 σ8 H9 _ I9 q9) ?_
        rintro y s10 ⟨yk, H10, I10, r10, q10⟩
        refine thnF (kv.run _ s10 σ8 H10 _ I10 q10) ?_
        rintro z s11 ⟨zk, H11, I11, r11, H12, put, nx⟩
        exact put_dict (X := X.blk s3 H3 scope ce fp) room I11 put r10 r11 fun t It => back It nx
  exact codeAny_compStart_dict loop (T.self X.A 0 _ _ _ at4 loop)
end
end HX

/-! N6: dicts in the mirror: k in d, d[k], d.get(k, e), d[k] = e; `<` of pairs. -/
namespace NL
open PySem PySem.Spec PyProof.Rows L2
variable {tb : List Addr} {K : PySem.W.Frag} {H H' H1 : Hp} {ms ms' ex ex' : List Addr} {M M' M1 : MM}
def keyD : D → Option Key
  | .int i => some (.inl i)
  | .str x => some (.inr x)
  | _ => none
def keysD : List D → Option (List Key)
  | [] => some []
  | d :: ds => match keyD d, keysD ds with
    | some k, some ks => some (k :: ks)
    | _, _ => none
theorem RV.key {v : V} {d : D} {k : Key} (r : RV K H ms ex v d) (e : keyD d = some k) : v = kV k := by
  cases r <;> first | (cases e; rfl) | cases e
theorem RVs.keys : ∀ {vs : List V} {ds : List D} {ks : List Key}, RVs K H ms ex vs ds → keysD ds = some ks → vs = ks.map kV
  | _, [], _, h, e => by cases h; cases e; rfl
  | _, d :: ds, ks, h, e => by
    unfold keysD at e
    split at e
    · rename_i k ks' h1 h2
      cases e
      cases h with
      | cons a b => rw [a.key h1, RVs.keys b h2]; rfl
    · cases e
/-- what stands at a key -/
def look {κ : Type} [DecidableEq κ] : List κ → List D → κ → Option D
  | k :: ks, d :: ds, j => if k = j then some d else look ks ds j
  | _, _, _ => none
/-- what a lookup gives -/
def RO (K : PySem.W.Frag) (H : Hp) (ms ex : List Addr) : Option V → Option D → Prop
  | some v, some d => RV K H ms ex v d
  | none, none => True
  | _, _ => False
theorem look_ok {κ : Type} [DecidableEq κ] (j : κ) : ∀ {ks : List κ} {vs : List V} {ds : List D}, ks.length = ds.length → RVs K H ms ex vs ds → RO K H ms ex (valV (ks.zip vs) j) (look ks ds j)
  | [], _, [], _, .nil => True.intro
  | k :: ks, _, _ :: _, l, .cons (v := v) (vs := vs) a b => by
    by_cases e : k = j
    · have h1 : valV ((k :: ks).zip (v :: vs)) j = some v := valV_pos (p := (k, v)) e
      rw [h1]
      unfold look
      rw [if_pos e]
      exact a
    · have h1 : valV ((k :: ks).zip (v :: vs)) j = valV (ks.zip vs) j := valV_neg (p := (k, v)) e
      rw [h1]
      unfold look
      rw [if_neg e]
      exact look_ok j (by simpa using l) b
/-- d[k] where there is one; none: no dict, or no key of its sort -/
def getO : D → D → Option (Option D)
  | .dk ks ds, k => match keyD k with
    | some j => some (look ks ds j)
    | none => none
  | .dt ks ds, .tup xs => match keysD xs with
    | some j => some (look ks ds j)
    | none => none
  | _, _ => none
def getD (M : MM) (o k : D) : Option (Option D) := match o with
  | .mu n => match M[n]? with
    | some d => getO d k
    | none => none
  | d => getO d k
theorem getO_raw {a : Addr} {o k : D} {y : V} {r : Option D} (h : Raw K H ms ex a o) (ry : RV K H ms ex y k) (e : getO o k = some r) : IsD H a ∧ ∃ ov, DGet H a y ov ∧ RO K H ms ex ov r := by
  unfold getO at e
  split at e
  · split at e
    · rename_i j hj
      cases e
      cases h with
      | dk q l rr => exact ⟨.inl ⟨_, .inl q⟩, _, ry.key hj ▸ DGet.k q, look_ok j l rr⟩
    · cases e
  · split at e
    · rename_i j hj
      cases e
      cases h with
      | dt q l rr =>
        cases ry with
        | tup s r2 =>
          have := r2.keys hj
          subst this
          exact ⟨.inr ⟨_, .inl q⟩, _, DGet.t q s, look_ok j l rr⟩
    · cases e
  · cases e
theorem getO_dt {a : Addr} {ks : List (List Key)} {xs : List V} {ds : List D} {k : D} {y : V} {r : Option D} (q : Rd H a (.dT (ks.zip xs))) (l : ks.length = ds.length) (rr : RVs K H ms ex xs ds) (ry : RV K H ms ex y k) (e : getO (.dt ks ds) k = some r) : IsD H a ∧ ∃ ov, DGet H a y ov ∧ RO K H ms ex ov r := by
  unfold getO at e
  cases k with
  | tup zs =>
    cases hj : keysD zs with
    | none => simp only [hj] at e; cases e
    | some j =>
      simp only [hj] at e
      cases e
      cases ry with
      | tup s r2 =>
        have := r2.keys hj
        subst this
        exact ⟨.inr ⟨_, q⟩, _, .inr ⟨_, j, _, q, rfl, s, rfl⟩, look_ok j l rr⟩
  | _ => cases e
theorem getD_ok {o k : D} {x y : V} {r : Option D} (m : RM tb K H ms ex M) (rx : RV K H ms ex x o) (ry : RV K H ms ex y k) (e : getD M o k = some r) : ∃ a, x = .ref a ∧ IsD H a ∧ ∃ ov, DGet H a y ov ∧ RO K H ms ex ov r := by
  unfold getD at e
  split at e
  · split at e
    · rename_i d hd
      cases rx with
      | mu e1 => exact ⟨_, rfl, getO_raw (m.at_ _ _ _ e1 hd) ry e⟩
    · cases e
  · cases rx with
    | dk q n1 n2 l rr => exact ⟨_, rfl, getO_raw (.dk q l rr) ry e⟩
    | dt q n1 n2 l rr => exact ⟨_, rfl, getO_dt q l rr ry e⟩
    | _ => cases e
/-! ### in -/
def rInDi : R2 := fun x y H Q => ∃ a o, y = .ref a ∧ DGet H a x o ∧ Q (.bl o.isSome) H
def rNotInDi : R2 := fun x y H Q => ∃ a o, y = .ref a ∧ DGet H a x o ∧ Q (.bl (!o.isSome)) H
theorem op_inDi {X : Cx} (hu : X.A.units + 1 < cLine) : OpR X (compareOp .In) rInDi := by
  rintro pins s σ H x y v u Q I rx ry ⟨a, o, rfl, g, q⟩
  have eu : u = .ref a := ry
  rw [eu]
  exact d_in hu I g rx fun s' I' => ⟨.bl o.isSome, H, I', rfl, q⟩
theorem op_notInDi {X : Cx} (hu : X.A.units + 1 < cLine) : OpR X (compareOp .NotIn) rNotInDi := by
  rintro pins s σ H x y v u Q I rx ry ⟨a, o, rfl, g, q⟩
  have eu : u = .ref a := ry
  rw [eu]
  exact d_notIn hu I g rx fun s' I' => ⟨.bl (!o.isSome), H, I', rfl, q⟩
def oInX (M : MM) (x y : D) : Option D := match getD M y x with
  | some r => some (.bl r.isSome)
  | none => oIn M x y
def oNotInX (M : MM) (x y : D) : Option D := match getD M y x with
  | some r => some (.bl (!r.isSome))
  | none => oNotIn M x y
def rInX (K : PySem.W.Frag) : R2 := fun x y H Q => rInDi x y H Q ∨ rInA K x y H Q
def rNotInX (K : PySem.W.Frag) : R2 := fun x y H Q => rNotInDi x y H Q ∨ rNotInA K x y H Q
theorem op_inX {X : Cx} (hu : X.A.units + 65 < cLine) : OpR X (compareOp .In) (rInX X.K) := (op_inDi (by omega)).or (op_inA hu)
theorem op_notInX {X : Cx} (hu : X.A.units + 65 < cLine) : OpR X (compareOp .NotIn) (rNotInX X.K) := (op_notInDi (by omega)).or (op_notInA hu)
theorem RO.some_eq {ov : Option V} {r : Option D} (h : RO K H ms ex ov r) : ov.isSome = r.isSome := by
  cases ov <;> cases r <;> first | rfl | cases h
theorem s_inX : OpS tb K (rInX K) oInX := by
  intro H ms ex M v u x y z Q m rv ru e q
  unfold oInX at e
  split at e
  · rename_i r hr
    cases e
    obtain ⟨a, rfl, _, ov, g, ro⟩ := getD_ok m ru rv hr
    exact .inl ⟨a, ov, rfl, g, by rw [ro.some_eq]; exact q H _ (Ext.refl H) m (.bl _)⟩
  · exact .inr (s_in H ms ex M v u x y z Q m rv ru e q)
theorem s_notInX : OpS tb K (rNotInX K) oNotInX := by
  intro H ms ex M v u x y z Q m rv ru e q
  unfold oNotInX at e
  split at e
  · rename_i r hr
    cases e
    obtain ⟨a, rfl, _, ov, g, ro⟩ := getD_ok m ru rv hr
    exact .inl ⟨a, ov, rfl, g, by rw [ro.some_eq]; exact q H _ (Ext.refl H) m (.bl _)⟩
  · exact .inr (s_notIn H ms ex M v u x y z Q m rv ru e q)
/-! ### `<` -/
def oLtX (M : MM) : D → D → Option D
  | .tup [.int i, .int j], .tup [.int k, .int l] => some (.bl (HX.pairLt i j k l))
  | x, y => oLt M x y
def rLtX (K : PySem.W.Frag) : R2 := fun x y H Q => HX.rLtP K x y H Q ∨ rI0 (fun i j => .bl (decide (i < j))) x y H Q
theorem op_ltX {X : Cx} (hu : X.A.units < cLine) : OpR X (compareOp .Lt) (rLtX X.K) := (HX.op_ltP hu).or op_lt
theorem two_tup {v : V} {i j : Int} (r : RV K H ms ex v (.tup [.int i, .int j])) : ∃ a, v = .ref a ∧ SqT K H a [.int i, .int j] := by
  cases r with
  | tup s rr =>
    have := RVs.ints (ns := [i, j]) rr
    subst this
    exact ⟨_, rfl, SqT.of s⟩
theorem s_ltX : OpS tb K (rLtX K) oLtX := by
  intro H ms ex M v u x y z Q m rv ru e q
  unfold oLtX at e
  split at e
  · cases e
    obtain ⟨a, rfl, sa⟩ := two_tup rv
    obtain ⟨b, rfl, sb⟩ := two_tup ru
    exact .inl ⟨a, b, _, _, _, _, rfl, rfl, sa, sb, q H _ (Ext.refl H) m (.bl _)⟩
  · exact .inr (s_lt H ms ex M v u x y z Q m rv ru e q)
/-! ### d[k] -/
def rIxDi : R2 := fun x y H Q => ∃ a v, x = .ref a ∧ DGet H a y (some v) ∧ Q v H
def oIxX (M : MM) (x i : D) : Option D := match getD M x i with
  | some r => r
  | none => oIx M x i
def tIxX (K : PySem.W.Frag) : R2 := fun x y H Q => rIxDi x y H Q ∨ rIxA K x y H Q
theorem s_ixX : OpS tb K (tIxX K) oIxX := by
  intro H ms ex M v u x y z Q m rv ru e q
  unfold oIxX at e
  split at e
  · rename_i r hr
    subst e
    obtain ⟨a, rfl, _, ov, g, ro⟩ := getD_ok m rv ru hr
    cases ov with
    | none => cases ro
    | some w => exact .inl ⟨a, w, rfl, g, q H w (Ext.refl H) m ro⟩
  · exact .inr (s_ix H ms ex M v u x y z Q m rv ru e q)
end NL

/-! N7: d[k] as an index, d.get(k, e), d[k] = e. -/
namespace NL
open PySem PySem.Spec PyProof.Rows L2
variable {tb : List Addr} {K : PySem.W.Frag} {H H' H1 : Hp} {ms ms' ex ex' : List Addr} {M M' M1 : MM}
section
variable {X : Cx} {pins : List (Addr × Obj)} {σ : L2.St} {s : Shared}
theorem got_at {a : Addr} {y v : V} {u : Value} (room : X.A.units + 1 < cLine) (I : Inv X pins σ H s) (g : DGet H a y (some v)) (ry : RelV y u) :
    ∃ w, RelV v w ∧ ∀ (Q : Value → Shared → Prop) (E : Value → Shared → Prop), (∀ s', Inv X pins σ H s' → Q w s') → wpAny (model X.prog X.w) X.A (getItem (.ref a) u) Q E s := by
  rcases g with ⟨kvs, k, e, rfl, l⟩ | ⟨kvs, k, b, e, rfl, eb, l⟩
  · obtain ⟨_, _, vs, rel, dd⟩ := dk_rd I.hok e
    obtain ⟨w, hw, rw⟩ := RelO.some_of (v := v) (l ▸ rel.val k)
    exact ⟨w, rw, fun Q E q => wpAny_getItem_of (kV_is ry) dd.mapOf hw (q _ (I.tok _))⟩
  · have eu : u = Value.ref b := ry
    obtain ⟨_, _, xs, rel, dd⟩ := dt_rd I.hok e
    obtain ⟨w, hw, rw⟩ := RelO.some_of (v := v) (l ▸ KT.val rel k)
    obtain ⟨p, hp, rfl⟩ := Option.map_eq_some_iff.mp hw
    exact ⟨p.2, rw, fun Q E q => eu ▸ wpAny_getItem_heap (tupleKind_room_in1 room) (key_of I.hok eb) dd hp (q _ (I.tok _))⟩
end
theorem ix_Di {X : Cx} (room : X.A.units + 1 < cLine) : IxR X rIxDi := by
  rintro value slice pins s σ H x y v u Q I rx ry ⟨a, z, rfl, g, q⟩ hs
  have ev : v = Value.ref a := rx
  rw [ev] at hs ⊢
  obtain ⟨w, rw', all⟩ := got_at room I g ry
  exact subscriptTail_builtinR (x := w) (dict_typeIs I g) PySem.F.slot_dict_getitem.lookup (all _ _ fun s' I' => ⟨rfl, z, H, I', rw', q⟩) hs
theorem ix_X {X : Cx} (room : X.A.units + 1 < cLine) : IxR X (tIxX X.K) := (ix_Di room).or ix_A
/-! ### d.get(k, e) -/
def mGet2 (fo fk fe : FE) : FE := fun r M => match fo r M with
  | some (o, M1) => match fk r M1 with
    | some (k, M2) => match fe r M2 with
      | some (d, M3) => match getD M3 o k with
        | some (some z) => some (z, M3)
        | some none => some (d, M3)
        | none => none
      | none => none
    | none => none
  | none => none
/-- o is a dict that stays one -/
theorem isD_stay {o : D} {x : V} {a : Addr} (m : RM tb K H ms ex M) (e : Ext ms H H') (h : IsD H a) (ha : ¬ a ∈ ms) : IsD H' a := by
  rcases h with ⟨kvs, h⟩ | ⟨kvs, h⟩
  · rcases h with h | ⟨ob, h⟩
    · exact .inl ⟨kvs, .inl (e a _ h ha fun _ z => by cases z)⟩
    · exact .inl ⟨kvs, .inr ⟨ob, e a _ h ha fun _ z => by cases z⟩⟩
  · rcases h with h | ⟨ob, h⟩
    · exact .inr ⟨kvs, .inl (e a _ h ha fun _ z => by cases z)⟩
    · exact .inr ⟨kvs, .inr ⟨ob, e a _ h ha fun _ z => by cases z⟩⟩
/-! ### a key put -/
def setVs {κ α : Type} [DecidableEq κ] : List κ → List α → κ → α → List α
  | k :: ks, x :: xs, j, v => (if k = j then v else x) :: setVs ks xs j v
  | _, xs, _, _ => xs
def putKs {κ : Type} [DecidableEq κ] (ks : List κ) (j : κ) : List κ := if j ∈ ks then ks else ks ++ [j]
def putVs {κ α : Type} [DecidableEq κ] (ks : List κ) (xs : List α) (j : κ) (v : α) : List α := if j ∈ ks then setVs ks xs j v else xs ++ [v]
theorem setVs_len {κ α : Type} [DecidableEq κ] (j : κ) (v : α) : ∀ (ks : List κ) (xs : List α), (setVs ks xs j v).length = xs.length
  | [], _ => rfl
  | _ :: _, [] => rfl
  | k :: ks, x :: xs => congrArg (· + 1) (setVs_len j v ks xs)
theorem setVs_zip {κ α : Type} [DecidableEq κ] (j : κ) (v : α) : ∀ {ks : List κ} {xs : List α}, ks.length = xs.length → (ks.zip xs).map (fun kv => if kv.1 = j then (kv.1, v) else kv) = ks.zip (setVs ks xs j v)
  | [], [], _ => rfl
  | k :: ks, x :: xs, h => by
    have ih := setVs_zip (α := α) j v (ks := ks) (xs := xs) (by simpa using h)
    show (if k = j then (k, v) else (k, x)) :: (ks.zip xs).map (fun kv => if kv.1 = j then (kv.1, v) else kv) = (k, if k = j then v else x) :: ks.zip (setVs ks xs j v)
    rw [ih]
    by_cases e : k = j
    · rw [if_pos e, if_pos e]
    · rw [if_neg e, if_neg e]
theorem zip_any {κ α : Type} [DecidableEq κ] (j : κ) : ∀ {ks : List κ} {xs : List α}, ks.length = xs.length → ((ks.zip xs).any fun kv => decide (kv.1 = j)) = decide (j ∈ ks)
  | [], [], _ => by simp
  | k :: ks, x :: xs, h => by
    have ih := zip_any (α := α) j (ks := ks) (xs := xs) (by simpa using h)
    simp only [List.zip_cons_cons, List.any_cons, ih]
    rw [Bool.eq_iff_iff]
    simp only [Bool.or_eq_true, decide_eq_true_eq, List.mem_cons]
    constructor
    · rintro (e | e)
      · exact .inl e.symm
      · exact .inr e
    · rintro (e | e)
      · exact .inl e.symm
      · exact .inr e
theorem putK_zip {κ : Type} [DecidableEq κ] (j : κ) (v : V) {ks : List κ} {xs : List V} (h : ks.length = xs.length) : putK (ks.zip xs) j v = (putKs ks j).zip (putVs ks xs j v) := by
  unfold putK putKs putVs
  rw [zip_any j h]
  by_cases e : j ∈ ks
  · rw [if_pos (decide_eq_true e), if_pos e, if_pos e, setVs_zip j v h]
  · rw [if_neg (by simpa using e), if_neg e, if_neg e]
    rw [List.zip_append h]
    rfl
theorem putVs_len {κ : Type} [DecidableEq κ] (j : κ) {α β : Type} (v : α) {ks : List κ} {xs : List α} (h : ks.length = xs.length) : (putKs ks j).length = (putVs ks xs j v).length := by
  unfold putKs putVs
  by_cases e : j ∈ ks
  · rw [if_pos e, if_pos e, setVs_len, h]
  · rw [if_neg e, if_neg e, List.length_append, List.length_append, h]
    rfl
theorem RVs.setVs {κ : Type} [DecidableEq κ] {v : V} {d : D} (j : κ) (rd : RV K H ms ex v d) : ∀ {ks : List κ} {vs : List V} {ds : List D}, RVs K H ms ex vs ds → RVs K H ms ex (NL.setVs ks vs j v) (NL.setVs ks ds j d)
  | [], _, _, h => h
  | _ :: _, _, _, .nil => .nil
  | k :: ks, _, _, .cons a b => by
    show RVs K H ms ex ((if k = j then v else _) :: NL.setVs ks _ j v) ((if k = j then d else _) :: NL.setVs ks _ j d)
    by_cases e : k = j
    · rw [if_pos e, if_pos e]
      exact .cons rd (RVs.setVs j rd b)
    · rw [if_neg e, if_neg e]
      exact .cons a (RVs.setVs j rd b)
theorem RVs.putVs {κ : Type} [DecidableEq κ] {v : V} {d : D} {ks : List κ} {vs : List V} {ds : List D} (j : κ) (rd : RV K H ms ex v d) (h : RVs K H ms ex vs ds) : RVs K H ms ex (NL.putVs ks vs j v) (NL.putVs ks ds j d) := by
  unfold NL.putVs
  by_cases e : j ∈ ks
  · rw [if_pos e, if_pos e]
    exact RVs.setVs j rd h
  · rw [if_neg e, if_neg e]
    exact h.append (.cons rd .nil)
/-- the dict with a key put -/
def putO : D → D → D → Option D
  | .dk ks ds, k, d => match keyD k with
    | some j => if ds.length ≤ 1000 then some (.dk (putKs ks j) (putVs ks ds j d)) else none
    | none => none
  | .dt ks ds, .tup xs, d => match keysD xs with
    | some j => if ds.length ≤ 1000 then some (.dt (putKs ks j) (putVs ks ds j d)) else none
    | none => none
  | _, _, _ => none
theorem putO_ok {a : Addr} {o k d o' : D} {y v : V} (h : Raw K H ms ex a o) (ry : RV K H ms ex y k) (rd : RV K H ms ex v d) (e : putO o k d = some o') :
    ∃ u, DPut H a y v (upd H a u) ∧ (∀ ps, u ≠ .tbl ps) ∧ ((∀ {x : V} {c : D}, RV K H ms ex x c → RV K (upd H a u) ms ex x c) → Raw K (upd H a u) ms ex a o') := by
  have lift : ∀ {u : HO}, (∀ {x : V} {c : D}, RV K H ms ex x c → RV K (upd H a u) ms ex x c) → ∀ {xs : List V} {cs : List D}, RVs K H ms ex xs cs → RVs K (upd H a u) ms ex xs cs := by
    intro u f xs cs
    induction cs generalizing xs with
    | nil => intro h; cases h; exact .nil
    | cons c cs ih =>
      intro h
      cases h with
      | cons h1 h2 => exact .cons (f h1) (ih h2)
  unfold putO at e
  split at e
  · split at e
    · rename_i j hj
      split at e
      · rename_i hl
        cases e
        cases h with
        | dk q l rr =>
          have few := rr.length
          refine ⟨_, ry.key hj ▸ DPut.k q (by rw [List.length_zip]; have := small1000 hl; omega), fun _ z => (by cases z), fun f => ?_⟩
          exact .dk (by rw [upd_same, putK_zip j v (by rw [l, few])]) (putVs_len (β := Unit) j d l) (lift f (rr.putVs j rd))
      · cases e
    · cases e
  · split at e
    · rename_i j hj
      split at e
      · rename_i hl
        cases e
        cases h with
        | dt q l rr =>
          have few := rr.length
          cases ry with
          | tup sk rk =>
            have := rk.keys hj
            subst this
            refine ⟨_, DPut.t q sk (by rw [List.length_zip]; have := small1000 hl; omega), fun _ z => (by cases z), fun f => ?_⟩
            exact .dt (by rw [upd_same, putK_zip j v (by rw [l, few])]) (putVs_len (β := Unit) j d l) (lift f (rr.putVs j rd))
      · cases e
    · cases e
  · cases e
end NL

/-! N8: d[k] = e as a statement, d.get(k, e), x.f. -/
namespace NL
open PySem PySem.Spec PyProof.Rows L2
variable {tb : List Addr} {K : PySem.W.Frag} {H H' H1 : Hp} {ms ms' ex ex' : List Addr} {M M' M1 : MM}
section
variable {X : Cx} {pos p2 : Pos} {a b c : Expr} {es : List Expr} {f g h fo fk fe : FE} {fa : FA} {st : Stmt} {sts : List Stmt} {fs gs : FS}
/-- o[k] = e, o a dict that may change -/
def mPut (fe fo fk : FE) : FS := fun r M => match fe r M with
  | some (d, M1) => match fo r M1 with
    | some (.mu n, M2) => match fk r M2 with
      | some (k, M3) => match M3[n]? with
        | some o => match putO o k d with
          | some o' => some (.nx r, M3.set n o')
          | none => none
        | none => none
      | none => none
    | _ => none
  | none => none
theorem mt_put {E : Ends} {σ : L2.St} {H : Hp} {fe fo fk : FE} (h : sM tb K (mPut fe fo fk) E σ H) : tAsg (eM tb K fe) (gSub (eM tb K fo) (eM tb K fk) rSetD) E σ H := by
  obtain ⟨ms, ex, r, M, o, M', m, s, e, q⟩ := h
  unfold mPut at e
  split at e
  · rename_i d M1 h1
    split at e
    · rename_i n M2 h2
      split at e
      · rename_i k M3 h3
        split at e
        · rename_i od h4
          split at e
          · rename_i o' h5
            cases e
            refine eM.use m s h1 fun H1 v1 x1 m1 s1 r1 => ?_
            refine eM.use m1 s1 h2 fun H2 v2 x2 m2 s2 r2 => ?_
            refine eM.use m2 s2 h3 fun H3 v3 x3 m3 s3 r3 => ?_
            have r2' := r2.ext m2 x3
            cases r2' with
            | mu e1 =>
              have raw := m3.at_ _ _ _ e1 h4
              have rd := (r1.ext m1 x2).ext m2 x3
              obtain ⟨u, g, nt, mk⟩ := putO_ok raw r3 rd h5
              obtain ⟨x4, m4⟩ := m3.store e1 (List.getElem?_eq_some_iff.mp h4).1 nt raw.thing fun x => mk fun r => r.ext m3 x
              exact ⟨_, _, rfl, g, q _ (((x1.trans x2).trans x3).trans x4) m4 σ (s3.ext m3 x4)⟩
          · cases e
        · cases e
      · cases e
    · cases e
  · cases e
/-- a dict -/
def isDic (M : MM) : D → Bool
  | .dk _ _ => true
  | .dt _ _ => true
  | .mu n => match M[n]? with
    | some (.dk _ _) => true
    | some (.dt _ _) => true
    | _ => false
  | _ => false
theorem isDic_ok {o : D} {x : V} (m : RM tb K H ms ex M) (rx : RV K H ms ex x o) (e : isDic M o = true) : ∃ a, x = .ref a ∧ IsD H a := by
  unfold isDic at e
  split at e
  · cases rx with
    | dk q _ _ _ _ => exact ⟨_, rfl, .inl ⟨_, .inl q⟩⟩
  · cases rx with
    | dt q _ _ _ _ => exact ⟨_, rfl, .inr ⟨_, q⟩⟩
  · cases rx with
    | mu e1 =>
      split at e
      · rename_i h4
        cases m.at_ _ _ _ e1 h4 with
        | dk q _ _ => exact ⟨_, rfl, .inl ⟨_, .inl q⟩⟩
      · rename_i h4
        cases m.at_ _ _ _ e1 h4 with
        | dt q _ _ => exact ⟨_, rfl, .inr ⟨_, .inl q⟩⟩
      · cases e
  · cases e
/-- o.get(k, e) -/
def mGet (fo fk fe : FE) : FE := fun r M => match fo r M with
  | some (o, M1) => if isDic M1 o then match fk r M1 with
      | some (k, M2) => match fe r M2 with
        | some (d, M3) => match getD M3 o k with
          | some z => some (z.getD d, M3)
          | none => none
        | none => none
      | none => none
    else none
  | none => none
theorem me_get {o e f : Expr} {apos cpos : Pos} (hu : X.A.units + 1 < cLine) (ho : PE X o (eM tb X.K fo)) (he : PE X e (eM tb X.K fk)) (hf : PE X f (eM tb X.K fe)) (m2 : M2 X o "get" apos e f cpos) :
    PE X (.Call (.Attribute o "get" apos) [e, f] [] cpos) (eM tb X.K (mGet fo fk fe)) :=
  (pe_dget2 hu ho he hf m2).weak fun σ H Q h => by
    obtain ⟨ms, ex, r, M, d', M', m, s, e, q⟩ := h
    unfold mGet at e
    split at e
    · rename_i od M1 h1
      split at e
      · rename_i hd
        split at e
        · rename_i k M2 h2
          split at e
          · rename_i d M3 h3
            split at e
            · rename_i z h4
              cases e
              refine eM.use m s h1 fun H1 v1 x1 m1 s1 r1 => ?_
              obtain ⟨p, rfl, dd⟩ := isDic_ok m1 r1 hd
              refine ⟨p, rfl, dd, ?_⟩
              refine eM.use m1 s1 h2 fun H2 v2 x2 m2 s2 r2 => ?_
              refine eM.use m2 s2 h3 fun H3 v3 x3 m3 s3 r3 => ?_
              obtain ⟨p', ep, _, ov, g, ro⟩ := getD_ok m3 ((r1.ext m1 x2).ext m2 x3) (r2.ext m2 x3) h4
              cases ep
              refine ⟨ov, g, q H3 _ ((x1.trans x2).trans x3) m3 ?_⟩
              cases ov with
              | none =>
                cases z with
                | none => exact r3
                | some _ => cases ro
              | some w =>
                cases z with
                | none => cases ro
                | some _ => exact ro
            · cases e
          · cases e
        · cases e
      · cases e
    · cases e
end
end NL

/-! N9: dict comprehensions. -/
namespace NL
open PySem PySem.Spec PyProof.Rows L2
variable {tb : List Addr} {K : PySem.W.Frag} {H H' H1 : Hp} {ms ms' ex ex' : List Addr} {M M' M1 : MM}
variable {X : Cx} {pos p2 : Pos} {a b c : Expr} {f g h fk fe : FE} {fb : FB} {ft : FT} {vs : List Nat}
/-- the turns of a dict comprehension; od: the dict so far -/
def dcD (tg : FT) (t : FB) (fk fe : FE) (r : En) : List D → D → MM → Option (D × MM)
  | [], od, M => some (od, M)
  | d :: ds, od, M => match tg d r with
    | some r1 => match t r1 M with
      | some (true, M1) => match fk r1 M1 with
        | some (k, M2) => match fe r1 M2 with
          | some (v, M3) => match putO od k v with
            | some od' => dcD tg t fk fe r ds od' M3
            | none => none
          | none => none
        | none => none
      | some (false, M1) => dcD tg t fk fe r ds od M1
      | none => none
    | none => none
def mDc (o0 : D) (it : D → Option (List D)) (fi : FE) (tg : FT) (t : FB) (fk fe : FE) (vs : List Nat) : FE := fun r M => match fi r M with
  | some (d, M1) => match it d with
    | some xs => dcD tg t fk fe (wipeD r vs) xs o0 M1
    | none => none
  | none => none
/-- what a dict made anew is told by, here and there -/
inductive New0 : HO → D → Prop
  | k : New0 (.dK []) (.dk [] [])
  | t : New0 (.dT []) (.dt [] [])
theorem New0.fresh {u : HO} {d : D} (h : New0 u d) : HX.Fresh u := by
  cases h with
  | k => exact .k
  | t => exact .t
theorem New0.raw {u : HO} {d : D} (h : New0 u d) {p : Addr} : Raw K (upd H p u) ms ex p d := by
  cases h with
  | k => exact .dk (xs := []) upd_same rfl .nil
  | t => exact .dt (xs := []) upd_same rfl .nil
theorem wipe_wipe (vs : List Nat) (σ : L2.St) : L2.wipe (L2.wipe σ vs) vs = L2.wipe σ vs := by
  have gen : ∀ (us : List Nat) (σ : L2.St), (∀ i ∈ us, i ∈ vs) → L2.wipe (L2.wipe σ us) vs = L2.wipe σ vs := fun us => by
    induction us with
    | nil => intro σ _; rfl
    | cons u us ih =>
      intro σ hu
      show L2.wipe ((L2.wipe σ us).set u none) vs = _
      rw [wipe_same _ _ _ _ (hu u List.mem_cons_self)]
      exact ih σ fun i hi => hu i (List.mem_cons_of_mem _ hi)
  exact gen vs σ fun _ h => h
/-- a dict that was made becomes one like others -/
theorem raw_out {p : Addr} {d : D} (m : RM tb K H ms (p :: ex) M) (hn : p ∉ ex) (h : Raw K H ms (p :: ex) p d) : RM tb K H ms ex M ∧ RV K H ms ex (.ref p) d := by
  obtain ⟨h2, m2⟩ := lock_out m
  have np := (m.exs p List.mem_cons_self).1
  refine ⟨m2, ?_⟩
  cases h with
  | lst e r => exact .lst e np hn (h2 r)
  | dk e l r => exact .dk e np hn l (h2 r)
  | dt e l r => exact .dt (.inl e) np hn l (h2 r)
theorem dc_rd0 {J : It} {σ : L2.St} {r : En} {xs : List D} {o0 od : D} {u0 : HO} {Q : VK} (n0 : New0 u0 o0) (m : RM tb K H ms ex M) (s : Sl K H ms ex σ r) (e : dcD ft fb fk fe (wipeD r vs) xs o0 M = some (od, M'))
    (fin : ∀ p H', H p = none → Ext ms H H' → RM tb K H' ms (p :: ex) M' → Raw K H' ms (p :: ex) p od → Q (.ref p) H')
    (hgo : ∀ (i : Nat) (H' : Hp) (d : D), Ext ms H H' → xs[i]? = some d → J.go i H' ∧ ∀ x H2, J.yld i H' x H2 → H2 = H' ∧ RV K H ms ex x d) (hst : ∀ H', Ext ms H H' → J.stop xs.length H') :
    ∀ d, H d = none → ∃ W : Nat → Nat → Hp → Prop, (∃ m, W 0 m (upd H d u0)) ∧ ∀ i m H', W i m H' →
      (J.stop i H' ∧ Q (.ref d) H') ∨ (J.go i H' ∧ ∃ Nx : Hp → Prop, (∀ H2, Nx H2 → ∃ m', m' < m ∧ W (i + 1) m' H2) ∧ ∀ x H2, J.yld i H' x H2 → HX.turnX (gW K vs ft) (bM tb K fb) (eM tb K fk) (eM tb K fe) vs σ d x H2 Nx) := by
  intro p hp
  obtain ⟨np1, np2⟩ := fresh_ms m hp
  have thing : ∀ {H2 : Hp} {d : D}, Raw K H2 ms (p :: ex) p d → Thing H2 p := fun z => z.thing
  let W : Nat → Nat → Hp → Prop := fun i k H2 => k = xs.length - i ∧ i ≤ xs.length ∧ ∃ Mi d, Ext ms H H2 ∧ RM tb K H2 ms (p :: ex) Mi ∧ Raw K H2 ms (p :: ex) p d ∧
    dcD ft fb fk fe (wipeD r vs) (xs.drop i) d Mi = some (od, M')
  have th0 : Thing (upd H p u0) p := (n0.raw (K := K) (ms := ms) (ex := ex)).thing
  refine ⟨W, ⟨xs.length, by omega, Nat.zero_le _, M, o0, Ext.of (same_new hp), lock_newO m hp th0, n0.raw, e⟩, ?_⟩
  rintro i k H2 ⟨hk, hi, Mi, d, x2, m2, raw, ee⟩
  by_cases hlt : i < xs.length
  · obtain ⟨hg, hyl⟩ := hgo i H2 xs[i] x2 (List.getElem?_eq_getElem hlt)
    rw [List.drop_eq_getElem_cons hlt] at ee
    unfold dcD at ee
    split at ee
    · rename_i r2 h2
      refine .inr ⟨hg, W (i + 1) (xs.length - (i + 1)), fun H' hN => ⟨xs.length - (i + 1), by omega, hN⟩, fun x H3 hx => ?_⟩
      obtain ⟨eH, rv⟩ := hyl x H3 hx
      subst eH
      have rv' := rv.lock m hp x2
      have s2 : Sl K H3 ms (p :: ex) (L2.wipe σ vs) (wipeD r vs) := (s.wipe vs).lock m hp x2
      refine ⟨ms, p :: ex, _, xs[i], r2, s2, rv', h2, fun σ2 s3 w3 => ⟨w3.trans (wipe_wipe vs σ), ?_⟩⟩
      split at ee
      · rename_i M1 h3
        refine bM.use m2 s3 h3 fun H4 x4 m4 s4 => iteT ?_
        split at ee
        · rename_i ky M2 h4
          refine eM.use m4 s4 h4 fun H5 v5 x5 m5 s5 r5 => ?_
          split at ee
          · rename_i vl M3 h5
            refine eM.use m5 s5 h5 fun H6 v6 x6 m6 s6 r6 => ?_
            split at ee
            · rename_i d' hput
              have x46 := (x4.trans x5).trans x6
              have raw6 : Raw K H6 ms (p :: ex) p d := raw.of (fun o z t => x46 p o z np1 t) fun z => ((z.ext m2 x4).ext m4 x5).ext m5 x6
              obtain ⟨u, put, nt, mk⟩ := putO_ok raw6 (r5.ext m5 x6) r6 hput
              have raw7 : ∀ (z : ∀ {x : V} {c : D}, RV K H6 ms (p :: ex) x c → RV K (upd H6 p u) ms (p :: ex) x c), Raw K (upd H6 p u) ms (p :: ex) p d' := mk
              have th : Thing (upd H6 p u) p := by
                rcases put with ⟨kvs, k, e1, _, _, e2⟩ | ⟨kvs, k, b, e1, _, _, _, e2⟩
                · have : upd H6 p u p = upd H6 p _ p := congrFun e2 p
                  rw [upd_same] at this
                  exact .inr (.inl ⟨_, by rw [e2]; exact upd_same⟩)
                · exact .inr (.inr ⟨_, by rw [e2]; exact upd_same⟩)
              obtain ⟨lg, mg⟩ := lock_growO (o := u) m6 th
              exact ⟨_, put, rfl, hlt, M3, d', (x2.trans x46).grow hp, mg, mk lg, ee⟩
            · cases ee
          · cases ee
        · cases ee
      · rename_i M1 h3
        refine bM.use m2 s3 h3 fun H4 x4 m4 s4 => iteF ?_
        exact ⟨rfl, hlt, M1, d, x2.trans x4, m4, raw.of (fun o z t => x4 p o z np1 t) fun z => z.ext m2 x4, ee⟩
      · cases ee
    · cases ee
  · have ei : i = xs.length := by omega
    subst ei
    rw [List.drop_length] at ee
    cases ee
    exact .inl ⟨hst H2 x2, fin p H2 hp x2 m2 raw⟩
theorem dc_rd {J : It} {σ : L2.St} {r : En} {xs : List D} {o0 od : D} {u0 : HO} {Q : VK} (n0 : New0 u0 o0) (m : RM tb K H ms ex M) (s : Sl K H ms ex σ r) (e : dcD ft fb fk fe (wipeD r vs) xs o0 M = some (od, M'))
    (q : ∀ H' v, Ext ms H H' → RM tb K H' ms ex M' → RV K H' ms ex v od → Q v H')
    (hgo : ∀ (i : Nat) (H' : Hp) (d : D), Ext ms H H' → xs[i]? = some d → J.go i H' ∧ ∀ x H2, J.yld i H' x H2 → H2 = H' ∧ RV K H ms ex x d) (hst : ∀ H', Ext ms H H' → J.stop xs.length H') :
    ∀ d, H d = none → ∃ W : Nat → Nat → Hp → Prop, (∃ m, W 0 m (upd H d u0)) ∧ ∀ i m H', W i m H' →
      (J.stop i H' ∧ Q (.ref d) H') ∨ (J.go i H' ∧ ∃ Nx : Hp → Prop, (∀ H2, Nx H2 → ∃ m', m' < m ∧ W (i + 1) m' H2) ∧ ∀ x H2, J.yld i H' x H2 → HX.turnX (gW K vs ft) (bM tb K fb) (eM tb K fk) (eM tb K fe) vs σ d x H2 Nx) :=
  dc_rd0 n0 m s e (fun p H' hp x m2 raw => by
    obtain ⟨m3, r3⟩ := raw_out m2 (fresh_ms m hp).2 raw
    exact q H' _ x m3 r3) hgo hst
theorem mt_dcT {u0 : HO} {o0 : D} {σ : L2.St} {Q : VK} (n0 : New0 u0 o0) (h : eM tb K (mDc o0 itemsT f ft fb fk fe vs) σ H Q) : HX.tDx u0 (iTup K (eM tb K f)) (gW K vs ft) (bM tb K fb) (eM tb K fk) (eM tb K fe) vs σ H Q := by
  obtain ⟨ms, ex, r, M, o, M', m, s, e, q⟩ := h
  unfold mDc at e
  split at e
  · rename_i d M1 h1
    split at e
    · rename_i xs h2
      refine eM.use m s h1 fun H1 v1 x1 m1 s1 r1 => ?_
      unfold itemsT at h2
      split at h2
      · cases h2
        cases r1 with
        | tup sq rr => exact ⟨_, rfl, ⟨_, SqT.of sq⟩, dc_rd n0 m1 s1 e (fun H2 v x2 m2 r2 => q H2 v (x1.trans x2) m2 r2) (fun i H' d x hd => itt_go0 m1 (SqT.of sq) rr i H' d x hd) (fun H' x => itt_stop m1 (SqT.of sq) rr H' x)⟩
      · cases h2
    · cases e
  · cases e
theorem mt_dcL {u0 : HO} {o0 : D} {σ : L2.St} {Q : VK} (n0 : New0 u0 o0) (h : eM tb K (mDc o0 itemsL f ft fb fk fe vs) σ H Q) : HX.tDx u0 (iList K (eM tb K f)) (gW K vs ft) (bM tb K fb) (eM tb K fk) (eM tb K fe) vs σ H Q := by
  obtain ⟨ms, ex, r, M, o, M', m, s, e, q⟩ := h
  unfold mDc at e
  split at e
  · rename_i d M1 h1
    split at e
    · rename_i xs h2
      refine eM.use m s h1 fun H1 v1 x1 m1 s1 r1 => ?_
      unfold itemsL at h2
      split at h2
      · cases h2
        cases r1 with
        | lst sq n1 n2 rr => exact ⟨_, rfl, ⟨_, SqL.of sq⟩, dc_rd n0 m1 s1 e (fun H2 v x2 m2 r2 => q H2 v (x1.trans x2) m2 r2) (fun i H' d x hd => itl_go0 m1 sq n1 rr i H' d x hd) (fun H' x => itl_stop sq n1 rr H' x)⟩
      · cases h2
    · cases e
  · cases e
end NL

/-! N10: what a loop or a comprehension goes over, told once; comprehensions with two `for`. -/
namespace NL
open PySem PySem.Spec PyProof.Rows L2
variable {tb : List Addr} {K : PySem.W.Frag} {H H' H1 : Hp} {ms ms' ex ex' : List Addr} {M M' M1 : MM}
variable {X : Cx} {pos p2 : Pos} {a b c : Expr} {f g h fk fe : FE} {fa : FA} {fb fb1 : FB} {ft ft1 : FT} {vs vs1 : List Nat}
abbrev FI := En → MM → Option (List D × MM)
def fiT (f : FE) : FI := fun r M => match f r M with
  | some (.tup xs, M1) => some (xs, M1)
  | _ => none
def fiL (f : FE) : FI := fun r M => match f r M with
  | some (.lst xs, M1) => some (xs, M1)
  | _ => none
def fiR (rg : List D → Option (Int × Int)) (fa : FA) : FI := fun r M => match fa r M with
  | some (ds, M1) => match rg ds with
    | some (i, j) => some (rangeD i (j - i).toNat, M1)
    | none => none
  | none => none
/-- from one heap to the next, the things in making apart -/
structure ExtE (ms ex : List Addr) (H H' : Hp) : Prop where
  keep : ∀ a o, H a = some o → a ∉ ms → a ∉ ex → (∀ ps, o ≠ .tbl ps) → H' a = some o
theorem Ext.e (x : Ext ms H H') : ExtE ms ex H H' := ⟨fun a o h n _ t => x a o h n t⟩
theorem ExtE.ext {H2 : Hp} (x : ExtE ms ex H H') (y : Ext ms H' H2) : ExtE ms ex H H2 := ⟨fun a o h n n2 t => y a o (x.keep a o h n n2 t) n t⟩
theorem ExtE.put {p : Addr} {o : HO} (x : ExtE ms ex H H') (hp : p ∈ ex) : ExtE ms ex H (upd H' p o) := ⟨fun a u h n n2 t => (upd_ne (fun z : a = p => n2 (by rw [z]; exact hp))).trans (x.keep a u h n n2 t)⟩
/-- the way over the items -/
structure Goes (K : PySem.W.Frag) (ms ex : List Addr) (J : It) (H : Hp) (xs : List D) : Prop where
  go : ∀ (i : Nat) (H' : Hp) (d : D), ExtE ms ex H H' → xs[i]? = some d → J.go i H' ∧ ∀ x H2, J.yld i H' x H2 → H2 = H' ∧ RV K H ms ex x d
  stop : ∀ H', ExtE ms ex H H' → J.stop xs.length H'
theorem goes_T {vs : List V} {ds : List D} {q : Addr} (m : RM tb K H ms ex M) (sq : H q = some (.tup vs)) (rr : RVs K H ms ex vs ds) : Goes K ms ex (Itt K q) H ds := by
  have still : ∀ H', ExtE ms ex H H' → SqT K H' q vs := fun H' x => SqT.of (x.keep q _ sq (fun z => (m.lst (.inl z)).ne sq (fun _ y => by cases y) (fun _ y => by cases y) fun _ y => by cases y) (fun z => (m.lst (.inr z)).ne sq (fun _ y => by cases y) (fun _ y => by cases y) fun _ y => by cases y) fun _ y => by cases y)
  refine ⟨fun i H' d x hd => ?_, fun H' x => ⟨vs, still H' x, by rw [rr.length]; exact Nat.le_refl _⟩⟩
  obtain ⟨v0, h0, rv0⟩ := rr.get hd
  refine ⟨⟨vs, v0, still H' x, h0⟩, fun v H2 hy => ⟨hy.1, ?_⟩⟩
  have := hy.2 vs (still H' x)
  rw [h0] at this
  cases this
  exact rv0
theorem goes_L {vs : List V} {ds : List D} {q : Addr} (sq : H q = some (.lst vs)) (n1 : q ∉ ms) (n2 : q ∉ ex) (rr : RVs K H ms ex vs ds) : Goes K ms ex (Itl K q) H ds := by
  have still : ∀ H', ExtE ms ex H H' → SqL K H' q vs := fun H' x => SqL.of (x.keep q _ sq n1 n2 fun _ y => by cases y)
  refine ⟨fun i H' d x hd => ?_, fun H' x => ⟨vs, still H' x, by rw [rr.length]; exact Nat.le_refl _⟩⟩
  obtain ⟨v0, h0, rv0⟩ := rr.get hd
  refine ⟨⟨vs, v0, still H' x, h0⟩, fun v H2 hy => ⟨hy.1, ?_⟩⟩
  have := hy.2 vs (still H' x)
  rw [h0] at this
  cases this
  exact rv0
theorem Sl.lift {σ : L2.St} {r : En} {H H' : Hp} (k : ∀ {v : V} {d : D}, RV K H ms ex v d → RV K H' ms ex v d) (s : Sl K H ms ex σ r) : Sl K H' ms ex σ r :=
  ⟨s.len, fun i d e => (s.at_ i d e).elim fun v z => ⟨v, z.1, k z.2⟩⟩
def ItOk (tb : List Addr) (K : PySem.W.Frag) (wi : TI) (fi : FI) : Prop := ∀ {ms ex : List Addr} {H : Hp} {M M1 : MM} {r : En} {σ : L2.St} {xs : List D} {Φ : It → Hp → Prop}, RM tb K H ms ex M → Sl K H ms ex σ r → fi r M = some (xs, M1) →
  (∀ J H1, Ext ms H H1 → RM tb K H1 ms ex M1 → Sl K H1 ms ex σ r → Goes K ms ex J H1 xs → Φ J H1) → wi σ H Φ
theorem it_T : ItOk tb K (iTup K (eM tb K f)) (fiT f) := by
  intro ms ex H M M1 r σ xs Φ m s e q
  unfold fiT at e
  split at e
  · rename_i ys M2 h1
    cases e
    refine eM.use m s h1 fun H1 v1 x1 m1 s1 r1 => ?_
    cases r1 with
    | tup sq rr => exact ⟨_, rfl, ⟨_, SqT.of sq⟩, q _ _ x1 m1 s1 (goes_T m1 sq rr)⟩
  · cases e
theorem it_L : ItOk tb K (iList K (eM tb K f)) (fiL f) := by
  intro ms ex H M M1 r σ xs Φ m s e q
  unfold fiL at e
  split at e
  · rename_i ys M2 h1
    cases e
    refine eM.use m s h1 fun H1 v1 x1 m1 s1 r1 => ?_
    cases r1 with
    | lst sq n1 n2 rr => exact ⟨_, rfl, ⟨_, SqL.of sq⟩, q _ _ x1 m1 s1 (goes_L sq n1 n2 rr)⟩
  · cases e
theorem goes_rng {i : Int} {n : Nat} : Goes K ms ex (Itr i n) H (rangeD i n) := ⟨fun k H' d _ hd => itr_go0 k H' d hd, fun H' _ => by rw [rangeD_len]; exact Nat.le_refl _⟩
theorem it_R1 : ItOk tb K (iRng1 (aM tb K fa)) (fiR rng1 fa) := by
  intro ms ex H M M1 r σ xs Φ m s e q
  unfold fiR at e
  split at e
  · rename_i ds M2 h1
    split at e
    · rename_i i j h2
      cases e
      refine aM.use m s h1 fun H1 v1 x1 m1 s1 r1 => ?_
      unfold rng1 at h2
      split at h2
      · split at h2
        · rename_i hb
          cases h2
          cases r1 with
          | cons r1 rr =>
            cases rr
            cases r1
            refine ⟨j, rfl, by omega, by omega, ?_⟩
            have e0 : (j - 0).toNat = j.toNat := by simp
            exact e0 ▸ q _ _ x1 m1 s1 (e0 ▸ goes_rng)
        · cases h2
      · cases h2
    · cases e
  · cases e
theorem it_R2 : ItOk tb K (iRng2 (aM tb K fa)) (fiR rng2 fa) := by
  intro ms ex H M M1 r σ xs Φ m s e q
  unfold fiR at e
  split at e
  · rename_i ds M2 h1
    split at e
    · rename_i i j h2
      cases e
      refine aM.use m s h1 fun H1 v1 x1 m1 s1 r1 => ?_
      unfold rng2 at h2
      split at h2
      · split at h2
        · rename_i hb
          cases h2
          cases r1 with
          | cons r1 rr =>
            cases rr with
            | cons r2 rr =>
              cases rr
              cases r1
              cases r2
              exact ⟨i, j, rfl, by omega, q _ _ x1 m1 s1 goes_rng⟩
        · cases h2
      · cases h2
    · cases e
  · cases e
/-- the turns of the outer `for` -/
def lc2D (tg : FT) (t : FB) (fi1 : FI) (tg1 : FT) (t1 : FB) (fe : FE) (vs1 : List Nat) (r : En) : List D → MM → Option (List D × MM)
  | [], M => some ([], M)
  | d :: ds, M => match tg d r with
    | some r1 => match t r1 M with
      | some (true, M1) => match fi1 r1 M1 with
        | some (xs1, M2) => match lcD tg1 t1 fe (wipeD r1 vs1) xs1 M2 with
          | some (ys, M3) => match lc2D tg t fi1 tg1 t1 fe vs1 r ds M3 with
            | some (zs, M4) => some (ys ++ zs, M4)
            | none => none
          | none => none
        | none => none
      | some (false, M1) => lc2D tg t fi1 tg1 t1 fe vs1 r ds M1
      | none => none
    | none => none
def mLc2 (fi : FI) (tg : FT) (t : FB) (fi1 : FI) (tg1 : FT) (t1 : FB) (fe : FE) (vs vs1 : List Nat) : FE := fun r M => match fi r M with
  | some (xs, M1) => match lc2D tg t fi1 tg1 t1 fe vs1 (wipeD r vs) xs M1 with
    | some (ys, M2) => if ys.length ≤ 1000 then some (.lst ys, M2) else none
    | none => none
  | none => none
theorem rvs_lift {H H' : Hp} {ms ex : List Addr} (k : ∀ {v : V} {d : D}, RV K H ms ex v d → RV K H' ms ex v d) : ∀ {v : List V} {d : List D}, RVs K H ms ex v d → RVs K H' ms ex v d
  | _, [], h => by cases h; exact .nil
  | _, _ :: _, h => by
    cases h with
    | cons a b => exact .cons (k a) (rvs_lift k b)
theorem mt_lc2 {wi wi1 : TI} {fi fi1 : FI} {σ : L2.St} {Q : VK} (it : ItOk tb K wi fi) (it1 : ItOk tb K wi1 fi1) (h : eM tb K (mLc2 fi ft fb fi1 ft1 fb1 fe vs vs1) σ H Q) :
    tLc2 wi (gW K vs ft) (bM tb K fb) wi1 (gW K vs1 ft1) (bM tb K fb1) (eM tb K fe) vs vs1 σ H Q := by
  obtain ⟨ms, ex, r, M, o, M', m0, s0, e, q⟩ := h
  unfold mLc2 at e
  split at e
  · rename_i xs M1 h1
    split at e
    · rename_i ys Me h2
      split at e
      · rename_i hl
        cases e
        refine it m0 s0 h1 fun J H1 x1 m s gs p hp => ?_
        obtain ⟨np1, np2⟩ := fresh_ms m hp
        let W : Nat → Nat → Hp → Prop := fun i k H2 => k = xs.length - i ∧ i ≤ xs.length ∧ ∃ Mi aV aD rest, Ext ms H1 H2 ∧ RM tb K H2 ms (p :: ex) Mi ∧ H2 p = some (.lst aV) ∧ RVs K H2 ms (p :: ex) aV aD ∧
          lc2D ft fb fi1 ft1 fb1 fe vs1 (wipeD r vs) (xs.drop i) Mi = some (rest, M') ∧ aD ++ rest = ys
        refine ⟨W, ⟨xs.length, by omega, Nat.zero_le _, M1, [], [], ys, Ext.of (same_new hp), lock_new m hp, upd_same, .nil, h2, rfl⟩, ?_⟩
        rintro i k H2 ⟨hk, hi, Mi, aV, aD, rest, x2, m2, ep, ra, ee, hy⟩
        by_cases hlt : i < xs.length
        · obtain ⟨hg, hyl⟩ := gs.go i H2 xs[i] x2.e (List.getElem?_eq_getElem hlt)
          rw [List.drop_eq_getElem_cons hlt] at ee
          unfold lc2D at ee
          split at ee
          · rename_i r2 h3
            refine .inr ⟨hg, W (i + 1) (xs.length - (i + 1)), fun H' hN => ⟨xs.length - (i + 1), by omega, hN⟩, fun x H3 hx => ?_⟩
            obtain ⟨eH, rv⟩ := hyl x H3 hx
            subst eH
            have s2 : Sl K H3 ms (p :: ex) (L2.wipe σ vs) (wipeD r vs) := (s.wipe vs).lock m hp x2
            refine ⟨ms, p :: ex, _, xs[i], r2, s2, rv.lock m hp x2, h3, fun σ2 s3 w3 => ⟨w3.trans (wipe_wipe vs σ), ?_⟩⟩
            split at ee
            · rename_i M2 h4
              refine bM.use m2 s3 h4 fun H4 x4 m4 s4 => iteT ?_
              split at ee
              · rename_i xs1 M3 h5
                refine it1 m4 s4 h5 fun J1 H5 x5 m5 s5 gs1 => ?_
                split at ee
                · rename_i ys1 M4 h6
                  split at ee
                  · rename_i zs M5 h7
                    cases ee
                    have x25 := (x2.trans x4).trans x5
                    have ep5 : H5 p = some (.lst aV) := x5 p _ (x4 p _ ep np1 fun _ z => by cases z) np1 fun _ z => by cases z
                    have ra5 := (ra.ext m2 x4).ext m4 x5
                    let W1 : Nat → Nat → Hp → Prop := fun j k H6 => k = xs1.length - j ∧ j ≤ xs1.length ∧ ∃ Mj bV bD rest1, Ext ms H1 H6 ∧ ExtE ms (p :: ex) H5 H6 ∧ RM tb K H6 ms (p :: ex) Mj ∧ Sl K H6 ms (p :: ex) σ2 r2 ∧ H6 p = some (.lst bV) ∧ RVs K H6 ms (p :: ex) bV bD ∧
                      (∀ v d, RV K H5 ms (p :: ex) v d → RV K H6 ms (p :: ex) v d) ∧ lcD ft1 fb1 fe (wipeD r2 vs1) (xs1.drop j) Mj = some (rest1, M4) ∧ bD ++ rest1 = aD ++ ys1
                    refine ⟨W1, ⟨xs1.length, by omega, Nat.zero_le _, M3, aV, aD, ys1, x25, ⟨fun _ _ z _ _ _ => z⟩, m5, s5, ep5, ra5, fun _ _ z => z, h6, rfl⟩, ?_⟩
                    rintro j k2 H6 ⟨hk2, hj, Mj, bV, bD, rest1, x6, x56, m6, s6, ep6, rb, lf, ee1, hy1⟩
                    by_cases hlt1 : j < xs1.length
                    · obtain ⟨hg1, hyl1⟩ := gs1.go j H6 xs1[j] x56 (List.getElem?_eq_getElem hlt1)
                      rw [List.drop_eq_getElem_cons hlt1] at ee1
                      unfold lcD at ee1
                      split at ee1
                      · rename_i r3 h8
                        refine .inr ⟨hg1, W1 (j + 1) (xs1.length - (j + 1)), fun H' hN => ⟨xs1.length - (j + 1), by omega, hN⟩, fun x' H7 hx' => ?_⟩
                        obtain ⟨eH7, rv7⟩ := hyl1 x' H7 hx'
                        subst eH7
                        refine ⟨ms, p :: ex, _, xs1[j], r3, s6.wipe vs1, lf _ _ rv7, h8, fun σ3 s7 w7 => ⟨w7.trans (wipe_wipe vs1 σ2), ?_⟩⟩
                        split at ee1
                        · rename_i M6 h9
                          refine bM.use m6 s7 h9 fun H8 x8 m8 s8 => iteT ?_
                          split at ee1
                          · rename_i y M7 h10
                            refine eM.use m8 s8 h10 fun H9 v9 x9 m9 s9 r9 => ?_
                            split at ee1
                            · rename_i ws M8 h11
                              cases ee1
                              have x89 := x8.trans x9
                              have ep9 : H9 p = some (.lst bV) := x89 p _ ep6 np1 fun _ z => by cases z
                              obtain ⟨lg, mg⟩ := lock_growO (o := .lst (bV ++ [v9])) m9 (.inl ⟨_, upd_same⟩)
                              have few : bV.length ≤ 999 := by
                                have e1 := congrArg List.length hy1
                                have e2 := congrArg List.length hy
                                have e3 := rb.length
                                simp only [List.length_append, List.length_cons] at e1 e2
                                omega
                              have up : ∀ {v : V} {d : D}, RV K H7 ms (p :: ex) v d → RV K (upd H9 p (.lst (bV ++ [v9]))) ms (p :: ex) v d := fun z => lg ((z.ext m6 x8).ext m8 x9)
                              refine ⟨bV, ep9, small1000 (by omega), rfl, hlt1, M7, bV ++ [v9], bD ++ [y], ws, (x6.trans x89).grow hp, (x56.ext x89).put List.mem_cons_self, mg, s6.lift up, upd_same, (rvs_lift up rb).append (.cons (lg r9) .nil), fun v d z => up (lf v d z), h11, ?_⟩
                              rw [List.append_assoc]
                              exact hy1
                            · cases ee1
                          · cases ee1
                        · rename_i M6 h9
                          refine bM.use m6 s7 h9 fun H8 x8 m8 s8 => iteF ?_
                          exact ⟨rfl, hlt1, M6, bV, bD, rest1, x6.trans x8, x56.ext x8, m8, s6.ext m6 x8, x8 p _ ep6 np1 (fun _ z => by cases z), rb.ext m6 x8, fun v d z => (lf v d z).ext m6 x8, ee1, hy1⟩
                        · cases ee1
                      · cases ee1
                    · have ej : j = xs1.length := by omega
                      subst ej
                      rw [List.drop_length] at ee1
                      cases ee1
                      rw [List.append_nil] at hy1
                      exact .inl ⟨gs1.stop H6 x56, rfl, hlt, M4, bV, bD, zs, x6, m6, ep6, rb, h7, by rw [hy1, List.append_assoc]; exact hy⟩
                  · cases ee
                · cases ee
              · cases ee
            · rename_i M2 h4
              refine bM.use m2 s3 h4 fun H4 x4 m4 s4 => iteF ?_
              exact ⟨rfl, hlt, M2, aV, aD, rest, x2.trans x4, m4, x4 p _ ep np1 (fun _ z => by cases z), ra.ext m2 x4, ee, hy⟩
            · cases ee
          · cases ee
        · have ei : i = xs.length := by omega
          subst ei
          rw [List.drop_length] at ee
          cases ee
          rw [List.append_nil] at hy
          subst hy
          obtain ⟨m3, r3⟩ := lock_end m2 np2 ep ra
          exact .inl ⟨gs.stop H2 x2.e, q H2 _ (x1.trans x2) m3 r3⟩
      · cases e
    · cases e
  · cases e
end NL

/-! HX3: tuple(e for x in s if ..), the parts quiet: what stands in the heap stays. -/
namespace HX
open PySem PySem.Spec PyProof.Rows L2 GxR
/-- the generator's code object, made now or before -/
theorem code_any {M : Model} {A : Around} {E : Value → Shared → Prop} {s : Shared} {env : Env} {c T : Addr} {ps : Array Value} {pos : Pos} {qn : Str} {scope : Scope} {Q : Value → Shared → Prop} (hc : env.code = .ref c) (cd : s.heap.IsCode c T ps) (ct : s.heap.TableAt c T ps)
    (tr : TriplesOk ps.toList) (q : ∀ code h' tk more, Heap.ExtBut T s.heap h' → s.heap.objs.size ≤ h'.objs.size → h'.get? T = some { cls := .none, data := .fields (ps ++ more) } → TriplesOk (ps ++ more).toList → Q code { s with heap := h', toks := tk }) :
    wpAny M A (genexprCode env pos qn scope) Q E s := by
  cases there : codeAmong pos ps.toList with
  | some old => exact wpAny_genexprCode_hit hc cd there (q old s.heap s.toks #[] (Heap.ExtBut.refl _ _) (Nat.le_refl _) (by simpa using ct.2) (by simpa using tr))
  | none =>
    refine wpAny_genexprCodeX hc cd ct there fun c' h' tk ext le lt is _ tab _ => ?_
    obtain ⟨_, _, _, _, _, _, _, _, _, _, _, _, _, _, _, _, _, _, _, triples, _⟩ := is
    exact q _ h' tk _ ext (Nat.le_trans le (Nat.le_of_lt lt)) tab.2 triples
/-- u can be walked: n items, the i-th as Pv says; the new iterator stands at the heap's end; T, the table of codes, is none of what is walked -/
def Source (P : Program) (w : World) (s : Shared) (T : Addr) (u : Value) (n : Nat) (Pv : Nat → Value → Prop) : Prop :=
  ∃ (o : Obj) (fp : List Addr) (St : Nat → Heap → Prop),
    (∀ (A : Around) (E : Value → Shared → Prop) (Q : Value → Shared → Prop), A.handled = none → Q (.ref s.heap.objs.size) { s with heap := s.heap.push o } → wpAny (model P w) A (pyIter u) Q E s) ∧
    (∀ A' : Around, A'.handled = none → Walks P w A' s.heap.objs.size (s.heap.objs.size :: fp) [s.heap.objs.size] n Pv St) ∧ St 0 (s.heap.push o) ∧ ∀ b ∈ fp, b < s.heap.objs.size ∧ b ≠ T
/-- the tests and the element at item i, in the generator's own frame: all that stood at s (but the iterator and the table) stands -/
def Quiet (X : Cx) (scope : Scope) (x : Str) (ifs : List Expr) (elt : Expr) (s : Shared) (T : Addr) (Pv : Nat → Value → Prop) (pz : Nat → Bool) (f : Nat → V) : Prop :=
  ∀ (env : Env) (A' : Around) (E' : Value → Shared → Prop) (i : Nat) (y : Value) (s₂ : Shared) (m₂ : Str → Option Value), env.scope = scope → env.cells = cloFrom X.env.cells scope.names [] → env.globals = X.env.globals → A'.handled = none → A'.depth ≤ X.A.depth + 1 → A'.units ≤ X.A.units + 8 → Pv i y → s₂.heap.Ns env.locals m₂ → m₂ x = some y →
    (∀ b o, b ≠ T → s.heap.get? b = some o → s₂.heap.get? b = some o) →
    wpAny (model X.prog X.w) A' (forIn ifs true fun c r => if r = true then do let ok ← isTrue c env (eval c env); pure (ForInStep.yield ok) else pure (ForInStep.yield r)) (fun ok s₃ => ok = pz i ∧ Keeps s₂ s₃) E' s₂ ∧
    (pz i = true → wpAny (model X.prog X.w) A' (eval elt env) (fun z s₃ => RelV (f i) z ∧ Keeps s₂ s₃) E' s₂)
section
variable {X : Cx}
def tTupG (X : Cx) (scope : Scope) (x : Str) (ifs : List Expr) (elt : Expr) (T : Addr) (te : TE) : TE := fun σ H Q => te σ H fun v H1 => TabG H1 T ∧ ∃ (n : Nat) (pz : Nat → Bool) (f : Nat → V), n ≤ sizeLine ∧
  (∀ pins s u, Inv X pins σ H1 s → RelV v u → ∃ Pv, Source X.prog X.w s T u n Pv ∧ Quiet X scope x ifs elt s T Pv pz f) ∧ ∀ H2 p, Tabbed T H1 H2 → H2 p = none → Q (.ref p) (upd H2 p (.tup ((passing pz n 0).map f)))
theorem vals_items {pz : Nat → Bool} {n : Nat} {f : Nat → V} {acc : Array Value} (h : ItemsOf (fun j y => ∃ i, (passing pz n 0)[j]? = some i ∧ RelV (f i) y) acc (passing pz n 0).length) : Vals ((passing pz n 0).map f) acc.toList := by
  have gen : ∀ (l : List Nat) (ys : List Value), ys.length = l.length → (∀ (j : Nat) (y : Value), ys[j]? = some y → ∃ i : Nat, l[j]? = some i ∧ RelV (f i) y) → Vals (l.map f) ys := by
    intro l
    induction l with
    | nil =>
      intro ys e _
      cases ys with
      | nil => exact .nil
      | cons y ys => cases e
    | cons i l ih =>
      intro ys e q
      cases ys with
      | nil => cases e
      | cons y ys =>
        obtain ⟨i', e1, r⟩ := q 0 y rfl
        cases e1
        exact .cons r (ih ys (by simpa using e) fun j z hz => q (j + 1) z hz)
  refine gen _ _ (by simpa using h.1) fun j y e => h.2 j y ?_
  rw [← Array.getElem?_toList]
  exact e
theorem pe_tupG {c T : Addr} {elt iter : Expr} {ifs : List Expr} {x : Str} {px p pos gpos : Pos} {scope : Scope} {te : TE} {k : Nat} (hr : Room k X.A) (hg : Gl X "tuple") (hm : X.mg "tuple" = none) (TB : TabB X.base X.mg c T) (hcode : X.env.code = .ref c) (S : GenS X.env scope x) (hi : PE X iter te)
    (fold : ∀ v, genFold iter X.env v = pure v)
    (he : starEach [.GeneratorExp elt [⟨.Name x px, iter, ifs, 0⟩] scope gpos] X.env = (false, eval (.GeneratorExp elt [⟨.Name x px, iter, ifs, 0⟩] scope gpos) X.env) :: starEach [] X.env := by rfl) :
    PE X (.Call (.Name "tuple" p) [.GeneratorExp elt [⟨.Name x px, iter, ifs, 0⟩] scope gpos] [] pos) (tTupG X scope x ifs elt T te) := by
  refine ⟨fun pins s σ H Q I h => ?_⟩
  refine Call_ (ld_blt I hg hm PyProof.Rows.boot_tuple (PyProof.Rows.callWith_type1 (PyProof.Rows.args_cons ?_ he) he rfl))
  refine wpAny_GeneratorExp_walksQD hr.hd S.co (closure_ok S.free) S.cell S.dot S.loc S.kind (by have := hr.dp; omega) ?_ fold
  refine thn (hi.run pins s σ H _ I h) fun u s1 got => ?_
  obtain ⟨v, H1, I1, r1, ⟨ps, hT, ht⟩, n, pz, f, hn, hw, fin⟩ := got
  obtain ⟨Pv, ⟨o, fp, St, iter1, W, st0, hfp⟩, quiet⟩ := hw pins s1 u I1 r1
  refine iter1 _ _ _ hr.hd ?_
  have atT : s1.heap.get? T = some { cls := .none, data := .fields ps } := I1.hok T _ hT
  have ltT : T < s1.heap.objs.size := Heap.lt_size atT
  have code2 : PySem.W.CodeHd (s1.heap.push o) c T := TB.code.keeps fun b z e => Heap.get?_push_of_some _ (I1.bk b z e)
  have atT2 : (s1.heap.push o).get? T = some { cls := .none, data := .fields ps } := Heap.get?_push_of_some _ atT
  have lim2 : (s1.heap.push o).NoLimit := I1.nolimit.push o
  refine ⟨lim2, ?_⟩
  refine code_any hcode (code2.code atT2 ht) (code2.tab atT2) ht fun code h3 tk more ext size3 atT3 ht3 => ?_
  obtain ⟨bm, ob, e1, e2, e3, e4, e5, e6, e7, e8⟩ := TB.bm
  have stays : ∀ b z, b ≠ T → s1.heap.get? b = some z → h3.get? b = some z := fun b z nb e => ext b z nb (Heap.get?_push_of_some _ e)
  have ltC : cStatics < s1.heap.objs.size := I1.nolimit.elim fun _ z => z.1.lt
  have neT : cStatics ≠ T := by
    obtain ⟨_, ns, _⟩ := I1.nolimit
    obtain ⟨o', es, ep, got, hd, _⟩ := ns
    intro e
    rw [e, atT] at got
    cases got
    cases hd
  have size2 : (s1.heap.push o).objs.size = s1.heap.objs.size + 1 := Heap.size_push ..
  refine wpAny_builtinsFor (m := X.mg) (by rw [I1.ok.glob]; exact ((I1.mod.glob.keeps I1.bk).push o).extBut ext TB.gP) e1 e2 (stays _ _ e4 (I1.bk _ _ e5)) e6 e7 e8 ?_
  have young : ∀ b ∈ s1.heap.objs.size :: fp, b ≠ T := by
    intro b hb
    rcases List.mem_cons.mp hb with z | z
    · rw [z]; exact (Nat.ne_of_lt ltT).symm
    · exact (hfp b z).2
  refine ⟨s1.heap.objs.size, s1.heap.objs.size :: fp, [s1.heap.objs.size], n, Pv, St, pz, fun i y => RelV (f i) y, rfl, W, ?_, ?_, lim2.extBut ext neT, ?_, ?_, ?_⟩
  · exact (W X.A hr.hd).frame _ _ _ st0 fun b hb z e => ext b z (young b hb) e
  · intro b hb
    have hb' : b < s1.heap.objs.size + 1 := by
      rcases List.mem_cons.mp hb with z | z
      · rw [z]; exact Nat.lt_succ_self _
      · exact Nat.lt_succ_of_lt (hfp b z).1
    exact Nat.lt_of_lt_of_le (size2 ▸ hb') size3
  · intro z
    exact absurd (List.mem_singleton.mp z) (Nat.ne_of_lt ltC)
  · intro href keep
    have kept : ∀ (s₂ : Shared), (∀ b ∈ List.range h3.objs.size, b ∉ [s1.heap.objs.size] → ∀ z, href.get? b = some z → s₂.heap.get? b = some z) → ∀ b z, b ≠ T → s1.heap.get? b = some z → s₂.heap.get? b = some z := by
      intro s₂ hk b z nb e
      have lt := Heap.lt_size e
      have e3 := stays b z nb e
      exact hk b (List.mem_range.mpr (Heap.lt_size e3)) (fun q => absurd (List.mem_singleton.mp q) (Nat.ne_of_lt lt)) z (keep b z e3)
    exact ⟨fun A' E' i y s₂ m₂ hA hd hu hy ns mx hk => (quiet _ A' E' i y s₂ m₂ rfl rfl (by rfl) hA hd hu hy ns mx (kept s₂ hk)).1,
      fun A' E' i y s₂ m₂ hA hd hu hy hp ns mx hk => (quiet _ A' E' i y s₂ m₂ rfl rfl (by rfl) hA hd hu hy ns mx (kept s₂ hk)).2 hp⟩
  · intro g h5 tk5 gs bare old5 size5 keep5 WS at0
    refine PyProof.Rows.args_nil ?_
    have few : (passing pz n 0).length ≤ sizeLine := by
      refine Nat.le_trans (List.length_filter_le _ _) ?_
      simpa using hn
    refine call_tuple_gen (hsz := few) WS.in4_3 (fun i s z => z.1.typeIs) at0 ?_ (List.mem_cons_self ..) fun s' acc hmv items => ?_
    · intro b hb
      have size5' : ({ s1 with heap := h5, gens := s1.gens.push gs, toks := tk5 } : Shared).heap.objs.size = g + 1 := size5
      rcases List.mem_cons.mp hb with z | z
      · rw [z]; exact size5' ▸ Nat.lt_succ_self _
      · rcases List.mem_cons.mp z with z | z
        · rw [z]; exact size5' ▸ Nat.lt_succ_of_lt old5
        · exact size5' ▸ Nat.lt_succ_of_lt (Nat.lt_trans (List.mem_range.mp z) old5)
    · have still : ∀ b z, s1.heap.get? b = some z → b ∉ h3.objs.size :: [s1.heap.objs.size] := by
        intro b z e q
        have lt := Heap.lt_size e
        rcases List.mem_cons.mp q with q | q
        · have lt3 : s1.heap.objs.size < h3.objs.size := Nat.lt_of_lt_of_le (size2 ▸ Nat.lt_succ_self _) size3
          exact absurd (q ▸ lt : (h3.objs.size : Nat) < s1.heap.objs.size) (Nat.not_lt.mpr (Nat.le_of_lt lt3))
        · exact absurd (List.mem_singleton.mp q) (Nat.ne_of_lt lt)
      have J := inv_tab (more := more) (h' := s'.heap) (g' := s'.gens) (d' := s'.drawn) (t' := s'.toks) I1 hT (fun b z nb e => hmv.heap b z (still b z e) (keep5 b z (stays b z nb e)))
        (hmv.heap T _ (still T _ atT) (keep5 T _ atT3)) (AllBare.movedS (I1.bare.push bare) hmv)
      rw [sh_eta s1 s' hmv.os] at J
      have rel := vals_items items
      have H2T : Tabbed T H1 (upd H1 T (.tbl (ps ++ more))) := ⟨⟨ps ++ more, upd_same, ht3⟩, fun b nb => upd_ne nb⟩
      have fresh := J.hok.fresh (Nat.le_refl s'.heap.objs.size)
      refine ⟨.ref s'.heap.objs.size, _, J.laid (t' := s'.toks) (o := .tup ((passing pz n 0).map f)) (fun b z e => Heap.get?_push_of_some _ e) (Nat.le_refl _) ?_, rfl, fin _ _ H2T fresh⟩
      exact ⟨by rw [List.length_map]; exact few, acc.toList, rel, by rw [Array.toArray_toList]; exact IsTup.new _ _⟩
end
end HX

/-! N11: a table of codes that grows; tuple(.. for ..) in the mirror; x.f. -/
namespace NL
open PySem PySem.Spec PyProof.Rows L2
variable {tb : List Addr} {K : PySem.W.Frag} {H H' H1 H2 : Hp} {ms ms' ex ex' : List Addr} {M M' M1 : MM} {T : Addr}
theorem tabbed_ext (m : RM tb K H ms ex M) (hT : T ∈ tb) (t : GxR.Tabbed T H H2) : Ext ms H H2 ∧ RM tb K H2 ms ex M := by
  obtain ⟨ps0, e0, _⟩ := m.tbs T hT
  have other : ∀ a o, H a = some o → (∀ ps, o ≠ .tbl ps) → H2 a = some o := fun a o e nt => by
    have ne : a ≠ T := fun z => by
      rw [z, e0] at e
      exact nt _ (Option.some.inj e).symm
    rw [t.2 a ne]
    exact e
  have x : Ext ms H H2 := by
    refine ⟨fun a o e _ nt => other a o e nt, fun a ps e _ => ?_⟩
    by_cases z : a = T
    · obtain ⟨ps', e', _⟩ := t.1
      exact ⟨ps', z ▸ e'⟩
    · exact ⟨ps, by rw [t.2 a z]; exact e⟩
  refine ⟨x, m.len, m.nd, fun n a d h1 h2 => (m.at_ n a d h1 h2).of (fun o e nt => other a o e nt) fun r => r.ext m x, fun b hb => ⟨(m.exs b hb).1, ?_⟩, fun b hb => ?_⟩
  · rcases (m.exs b hb).2 with ⟨xs, e⟩ | ⟨xs, e⟩ | ⟨xs, e⟩
    · exact .inl ⟨xs, other b _ e fun _ z => by cases z⟩
    · exact .inr (.inl ⟨xs, other b _ e fun _ z => by cases z⟩)
    · exact .inr (.inr ⟨xs, other b _ e fun _ z => by cases z⟩)
  · by_cases z : b = T
    · exact z ▸ t.1
    · obtain ⟨ps, e, ok⟩ := m.tbs b hb
      exact ⟨ps, by rw [t.2 b z]; exact e, ok⟩
/-- tuple(e for x in s if ..): what the generator goes over is d, what comes is ys -/
def mTupG (fi : FE) (step : En → MM → D → Option (List D)) : FE := fun r M => match fi r M with
  | some (d, M1) => match step r M1 d with
    | some ys => some (.tup ys, M1)
    | none => none
  | none => none
/-- the generator's turns keep to step -/
def StepOk (tb : List Addr) (X : Cx) (scope : Scope) (x : Str) (ifs : List Expr) (elt : Expr) (T : Addr) (step : En → MM → D → Option (List D)) : Prop :=
  ∀ {ms ex : List Addr} {H : Hp} {M : MM} {r : En} {σ : L2.St} {v : V} {d : D} {ys : List D}, RM tb X.K H ms ex M → Sl X.K H ms ex σ r → RV X.K H ms ex v d → step r M d = some ys →
    ∃ (n : Nat) (pz : Nat → Bool) (f : Nat → V), n ≤ sizeLine ∧ (∀ pins s u, Inv X pins σ H s → RelV v u → ∃ Pv, HX.Source X.prog X.w s T u n Pv ∧ HX.Quiet X scope x ifs elt s T Pv pz f) ∧ RVs X.K H ms ex ((passing pz n 0).map f) ys
theorem mt_tupG {X : Cx} {scope : Scope} {x : Str} {ifs : List Expr} {elt : Expr} {fi : FE} {step : En → MM → D → Option (List D)} (hT : T ∈ tb) (ok : StepOk tb X scope x ifs elt T step) {σ : L2.St} {Q : VK} (h : eM tb X.K (mTupG fi step) σ H Q) :
    HX.tTupG X scope x ifs elt T (eM tb X.K fi) σ H Q := by
  obtain ⟨ms, ex, r, M, d', M', m, s, e, q⟩ := h
  unfold mTupG at e
  split at e
  · rename_i d M1 h1
    split at e
    · rename_i ys h2
      cases e
      refine eM.use m s h1 fun H1 v1 x1 m1 s1 r1 => ?_
      obtain ⟨n, pz, f, hn, walk, rel⟩ := ok m1 s1 r1 h2
      refine ⟨m1.tbs T hT, n, pz, f, hn, walk, fun H2 p t hp => ?_⟩
      obtain ⟨x2, m2⟩ := tabbed_ext m1 hT t
      obtain ⟨x3, m3, r3⟩ := new_tup m2 hp (rel.ext m1 x2)
      exact q _ _ ((x1.trans x2).trans x3) m3 r3
    · cases e
  · cases e
/-! ### x.f -/
theorem lookup_ok {f : Str} : ∀ {ns : List Str} {vs : List V} {ds : List D} {d : D}, RVs K H ms ex vs ds → look ns ds f = some d → ∃ v, (ns.zip vs).lookup f = some v ∧ RV K H ms ex v d
  | [], _, _, _, _, e => by cases e
  | _ :: _, _, [], _, .nil, e => by cases e
  | k :: ns, _, _ :: _, d, .cons (v := v) (vs := vs) a b, e => by
    unfold look at e
    by_cases z : k = f
    · rw [if_pos z] at e
      cases e
      subst z
      exact ⟨v, by simp [List.lookup_cons], a⟩
    · rw [if_neg z] at e
      obtain ⟨w, h1, h2⟩ := lookup_ok b e
      refine ⟨w, ?_, h2⟩
      have nz : (f == k) = false := by
        rw [beq_eq_false_iff_ne]
        exact fun q => z q.symm
      show (((k, v) :: ns.zip vs).lookup f) = some w
      rw [List.lookup_cons, nz]
      exact h1
/-- x.f, x an instance of the class at C -/
def mFld (C : Addr) (f : Str) (fe : FE) : FE := fun r M => match fe r M with
  | some (.ins C' ns ds, M1) => if C' = C then match look ns ds f with
      | some d => some (d, M1)
      | none => none
    else none
  | _ => none
theorem me_fld {X : Cx} {e : Expr} {f : Str} {pos : Pos} {fe : FE} {C : Addr} (cl : Cls X.K C) (na : NoAttr X.K C f) (he : PE X e (eM tb X.K fe)) (hb : attributeBase e f X.env (eval e X.env) = eval e X.env := by rfl) : PE X (.Attribute e f pos) (eM tb X.K (mFld C f fe)) :=
  (pe_fld he hb).weak fun σ H Q h => by
    obtain ⟨ms, ex, r, M, d', M', m, s, e, q⟩ := h
    unfold mFld at e
    split at e
    · rename_i C' ns ds M1 h1
      split at e
      · rename_i ec
        subst ec
        split at e
        · rename_i d hd
          cases e
          refine eM.use m s h1 fun H1 v1 x1 m1 s1 r1 => ?_
          cases r1 with
          | ins q1 n1 n2 l rr =>
            obtain ⟨w, hw, rw'⟩ := lookup_ok rr hd
            exact ⟨_, _, _, _, w, rfl, q1, cl, na, hw, q _ _ x1 m1 rw'⟩
        · cases e
      · cases e
    · cases e
end NL

/-! N12: o.m(..), o an instance. -/
namespace NL
open PySem PySem.Spec PyProof.Rows L2
variable {tb : List Addr} {K : PySem.W.Frag} {H H' H1 H2 : Hp} {ms ms' ex ex' : List Addr} {M M' M1 : MM}
theorem lookup_no {α : Type} {f : Str} : ∀ {ns : List Str} {vs : List α}, f ∉ ns → (ns.zip vs).lookup f = none
  | [], _, _ => by simp
  | _ :: _, [], _ => rfl
  | k :: ns, v :: vs, h => by
    have nz : (f == k) = false := by
      rw [beq_eq_false_iff_ne]
      exact fun q => h (q ▸ List.mem_cons_self)
    show (((k, v) :: ns.zip vs).lookup f) = none
    rw [List.lookup_cons, nz]
    exact lookup_no fun z => h (List.mem_cons_of_mem _ z)
/-- o.m(..): the def is told the instance first -/
def mMeth (C : Addr) (m : Str) (gc : FC) (fo : FE) (fa : FA) : FE := fun r M => match fo r M with
  | some (.ins C' ns ds, M1) => if C' = C ∧ m ∉ ns then match fa r M1 with
      | some (as, M2) => gc (.ins C' ns ds :: as) M2
      | none => none
    else none
  | _ => none
theorem mt_meth {C : Addr} {m : Str} {n : Nat} {gc : FC} {fo : FE} {fa : FA} {E : XK} (hl : ∀ r M ds M', fa r M = some (ds, M') → ds.length = n) {σ : L2.St} {Q : VK} (h : eM tb K (mMeth C m gc fo fa) σ H Q) :
    tMeth C m (spM tb K (n + 1) gc) [] E (eM tb K fo) (aM tb K fa) σ H Q := by
  obtain ⟨ms, ex, r, M, d', M', m0, s, e, q⟩ := h
  unfold mMeth at e
  split at e
  · rename_i C' ns ds M1 h1
    split at e
    · rename_i hc
      obtain ⟨ec, hno⟩ := hc
      subst ec
      split at e
      · rename_i as M2 h2
        refine eM.use m0 s h1 fun H1 v1 x1 m1 s1 r1 => ?_
        cases r1 with
        | ins q1 n1 n2 l rr =>
          refine ⟨_, _, _, rfl, q1, lookup_no hno, ?_⟩
          refine aM.use m1 s1 h2 fun H2 v2 x2 m2 s2 r2 => ?_
          refine ⟨ms, ex, M2, _ :: as, d', M', m2, .cons ((RV.ins q1 n1 n2 l rr).ext m1 x2) ?_, ?_, e, fun H3 v3 x3 m3 r3 => q H3 v3 ((x1.trans x2).trans x3) m3 r3⟩
          · rw [List.append_nil]
            exact r2
          · exact congrArg (· + 1) (hl _ _ _ _ h2)
      · cases e
    · cases e
  · cases e
end NL

/-! N13: C(..), __init__ sets one field for each argument. -/
namespace NL
open PySem PySem.Spec PyProof.Rows L2
variable {tb : List Addr} {K : PySem.W.Frag} {H H' H1 H2 : Hp} {ms ms' ex ex' : List Addr} {M M' M1 : MM}
/-- what such an __init__ promises -/
def spI (C : Addr) (ns : List Str) : Sp := fun vs H Q _ => ∃ (x dx : Addr) (as : List V), vs = .ref x :: as ∧ as.length = ns.length ∧ H x = some (.ins C dx []) ∧ Q .non (upd H x (.ins C dx (ns.zip as)))
def mMake (C : Addr) (ns : List Str) (fa : FA) : FE := fun r M => match fa r M with
  | some (ds, M1) => if ns.length = ds.length then some (.ins C ns ds, M1) else none
  | none => none
theorem mt_make {C : Addr} {ns : List Str} {fa : FA} {E : XK} {σ : L2.St} {Q : VK} (h : eM tb K (mMake C ns fa) σ H Q) : tMake C (spI C ns) [] E (aM tb K fa) σ H Q := by
  obtain ⟨ms, ex, r, M, d', M', m, s, e, q⟩ := h
  unfold mMake at e
  split at e
  · rename_i ds M1 h1
    split at e
    · rename_i hl
      cases e
      refine aM.use m s h1 fun H1 v1 x1 m1 s1 r1 => fun x dx hx hd hne => ?_
      rw [List.append_nil]
      refine ⟨x, dx, v1, rfl, by rw [r1.length, hl], upd_same, rfl, ?_⟩
      rw [upd_upd]
      have sm1 := same_new (o := HO.own x) hd
      have hx1 : upd H1 dx (.own x) x = none := by
        rw [upd_ne (Ne.symm hne)]
        exact hx
      have sm2 := same_new (o := HO.ins C dx (ns.zip v1)) hx1
      have m2 := (m1.same sm1).same sm2
      obtain ⟨n1, n2⟩ := fresh_ms m1 hx
      have x2 : Ext ms H1 _ := (Ext.of sm1).trans (Ext.of sm2)
      exact q _ _ (x1.trans x2) m2 (.ins upd_same n1 n2 hl (r1.ext m1 x2))
    · cases e
  · cases e
end NL
namespace NL
open PySem PySem.Spec PyProof.Rows L2
/-! ### such an __init__, by its body -/
/-- self.f = p, field by field: the slot of p, the field -/
inductive InitB (X : Cx) : List Stmt → List (Nat × Str) → Prop
  | nil : InitB X [] []
  | cons {st : Stmt} {sts : List Stmt} {j : Nat} {f : Str} {l : List (Nat × Str)} : PS X st (sFld X.K (tVar 0) (tVar j) f) → InitB X sts l → InitB X (st :: sts) ((j, f) :: l)
def tInit (K : PySem.W.Frag) : List (Nat × Str) → TS
  | [] => tNext
  | (j, f) :: l => tSeq (sFld K (tVar 0) (tVar j) f) (tInit K l)
theorem InitB.pss {X : Cx} : ∀ {sts : List Stmt} {l : List (Nat × Str)}, InitB X sts l → PSs X sts (tInit X.K l)
  | _, _, .nil => pss_nil
  | _, _, .cons a b => pss_cons a b.pss
theorem putF_new {f : Str} {v : V} : ∀ {fs : List (Str × V)}, f ∉ fs.map (·.1) → putF f v fs = fs ++ [(f, v)]
  | [], _ => rfl
  | (g, x) :: r, h => by
    have ne : ¬ g = f := fun z => h (z ▸ List.mem_cons_self)
    unfold putF
    rw [if_neg ne, putF_new fun z => h (List.mem_cons_of_mem _ z)]
    rfl
theorem init_run {K : PySem.W.Frag} {C x dx : Addr} {σ : L2.St} {D : Ends} (cl : Cls K C) (h0 : σ[0]? = some (some (.ref x))) : ∀ {l : List (Nat × Str)} {as : List V} {fs : List (Str × V)} {H : Hp}, (∀ p ∈ l, NoAttr K C p.2) → as.length = l.length → (∀ k (hk : k < l.length) (ha : k < as.length), σ[(l[k]).1]? = some (some as[k])) →
    H x = some (.ins C dx fs) → (fs.map (·.1) ++ l.map (·.2)).Nodup → fs.length + l.length < 1000 → D.nx σ (upd H x (.ins C dx (fs ++ (l.map (·.2)).zip as))) → tInit K l D σ H
  | [], [], fs, H, _, _, _, e, _, _, q => by
    have same : upd H x (.ins C dx (fs ++ ([] : List Str).zip ([] : List V))) = H := by
      funext b
      by_cases z : b = x
      · rw [z, upd_same, e]
        simp
      · rw [upd_ne z]
    exact same ▸ q
  | (j, f) :: l, a :: as, fs, H, na, hl, at_, e, nd, few, q => by
    have new : f ∉ fs.map (·.1) := fun z => by
      have := (List.nodup_append.mp nd).2.2 f z f (by simp)
      exact this rfl
    refine ⟨a, at_ 0 (by simp) (by simp), .ref x, h0, x, C, dx, fs, rfl, e, cl, na (j, f) List.mem_cons_self, by simp at few; omega, ?_⟩
    rw [putF_new new]
    refine init_run (H := upd H x (.ins C dx (fs ++ [(f, a)]))) (fs := fs ++ [(f, a)]) cl h0 (fun p hp => na p (List.mem_cons_of_mem _ hp)) (by simpa using hl) (fun k hk ha => ?_) upd_same (by simpa using nd) (by simp at few ⊢; omega) ?_
    · exact at_ (k + 1) (by simp; omega) (by simp; omega)
    · rw [upd_upd]
      simpa using q
end NL

/-! N14: an __init__ that sets one field for each argument keeps to spI. -/
namespace NL
open PySem PySem.Spec PyProof.Rows L2
def idx : Nat → List Str → List (Nat × Str)
  | _, [] => []
  | i, f :: fs => (i, f) :: idx (i + 1) fs
theorem idx_len : ∀ (i : Nat) (fs : List Str), (idx i fs).length = fs.length
  | _, [] => rfl
  | i, _ :: fs => congrArg (· + 1) (idx_len (i + 1) fs)
theorem idx_snd : ∀ (i : Nat) (fs : List Str), (idx i fs).map (·.2) = fs
  | _, [] => rfl
  | i, f :: fs => congrArg (f :: ·) (idx_snd (i + 1) fs)
theorem idx_at : ∀ (i : Nat) (fs : List Str) (k : Nat) (h : k < (idx i fs).length), ((idx i fs)[k]).1 = i + k
  | _, [], k, h => by cases h
  | i, f :: fs, 0, _ => rfl
  | i, f :: fs, k + 1, h => by
    have := idx_at (i + 1) fs k (by simpa [idx] using h)
    show ((idx (i + 1) fs)[k]'_).1 = i + (k + 1)
    omega
theorem start_at {N : List Str} {vs : List V} {i : Nat} (h : i < vs.length) : (L2.start N vs)[i]? = some (some vs[i]) := by
  unfold L2.start
  rw [List.getElem?_append_left (by simpa using h)]
  simp [h]
variable {P : Program} {w : World} {K : PySem.W.Frag} {mg : Str → Option Value} {base : Heap}
theorem m_init {C : Addr} {flds : List Str} {x qual : Str} {st : Stmt} {q : Addr} {fd : FuncData} {N ps : List Str} {k : Nat} (F : Fun K x qual st q fd) (S : FnScope N ps (defScope st)) (cl : Cls K C) (na : ∀ f ∈ flds, NoAttr K C f) (nd : flds.Nodup) (hn : ps.length = flds.length + 1) (few : flds.length < 1000)
    (hb : ∀ (cdv : Value) (A : Around) (outer : List Env) (s : Shared) (H : Hp) (E : XK), Room k (A.deeper (envOfC qual (defScope st) s.heap.objs.size q cdv)) → InitB (cxOf CX0 P w K mg base N qual (defScope st) q cdv A outer s H E).nox (defBody st) (idx 1 flds)) :
    FnOk P w K mg base CX0 (k + 1) q fd ps (spI C flds) := by
  refine F.ok S (fun vs H Q E h => ?_) (fun cdv A outer s H vs Q E hr h => ⟨_, (hb cdv A outer s H E hr).pss, ?_⟩)
  · obtain ⟨x, dx, as, rfl, hl, _⟩ := h
    rw [List.length_cons, hl, hn]
  · obtain ⟨x, dx, as, rfl, hl, e, hq⟩ := h
    have hl2 : as.length = (idx 1 flds).length := by rw [idx_len]; exact hl
    refine init_run (fs := []) cl (start_at (by simp)) (fun p hp => na p.2 ?_) hl2 (fun i hi ha => ?_) e ?_ ?_ ?_
    · have := List.mem_map_of_mem (f := fun z : Nat × Str => z.2) hp
      rwa [idx_snd] at this
    · rw [idx_at 1 flds i hi, start_at (by simp; omega)]
      congr 2
      have : 1 + i = i + 1 := Nat.add_comm 1 i
      simp [this]
    · simpa [idx_snd] using nd
    · simpa [idx_len] using few
    · rw [idx_snd]
      exact hq
end NL

/-! N15: a thing made in a def, changed there, and told as it stands when the def ends. -/
namespace NL
open PySem PySem.Spec PyProof.Rows L2
variable {tb : List Addr} {K : PySem.W.Frag} {H H' H1 H2 : Hp} {ms ms' ex ex' : List Addr} {M M' M1 : MM}
mutual
/-- the n-th thing that may change is not in it -/
def clean (n : Nat) : D → Bool
  | .mu k => k != n
  | .tup xs => cleans n xs
  | .lst xs => cleans n xs
  | .fz xs => cleans n xs
  | .ct xs => cleans n xs
  | .dk _ xs => cleans n xs
  | .dt _ xs => cleans n xs
  | .ins _ _ xs => cleans n xs
  | .non => true
  | .bl _ => true
  | .int _ => true
  | .str _ => true
def cleans (n : Nat) : List D → Bool
  | [] => true
  | d :: ds => clean n d && cleans n ds
end
mutual
/-- the n-th thing told as o -/
def told (n : Nat) (o : D) : D → D
  | .mu k => if k = n then o else .mu k
  | .tup xs => .tup (tolds n o xs)
  | .lst xs => .lst (tolds n o xs)
  | .fz xs => .fz (tolds n o xs)
  | .ct xs => .ct (tolds n o xs)
  | .dk ks xs => .dk ks (tolds n o xs)
  | .dt ks xs => .dt ks (tolds n o xs)
  | .ins C ns xs => .ins C ns (tolds n o xs)
  | .non => .non
  | .bl b => .bl b
  | .int i => .int i
  | .str x => .str x
def tolds (n : Nat) (o : D) : List D → List D
  | [] => []
  | d :: ds => told n o d :: tolds n o ds
end
theorem tolds_len (n : Nat) (o : D) : ∀ ds : List D, (tolds n o ds).length = ds.length
  | [] => rfl
  | _ :: ds => congrArg (· + 1) (tolds_len n o ds)
section
variable {p : Addr}
theorem old_at {n : Nat} {a : Addr} (h : (ms ++ [p])[n]? = some a) (hn : n ≠ ms.length) : ms[n]? = some a := by
  by_cases l : n < ms.length
  · rwa [List.getElem?_append_left l] at h
  · have := (List.getElem?_eq_some_iff.mp h).1
    simp at this
    omega
mutual
theorem RV.clean : ∀ {v : V} {d : D}, NL.clean ms.length d = true → RV K H (ms ++ [p]) ex v d → RV K H ms ex v d
  | _, _, _, .non => .non
  | _, _, _, .bl b => .bl b
  | _, _, _, .int i => .int i
  | _, _, _, .str x => .str x
  | _, _, h, .tup s r => .tup s (RVs.clean h r)
  | _, _, h, .fz s r => .fz s (RVs.clean h r)
  | _, _, h, .ct s r => .ct s (RVs.clean h r)
  | _, _, h, .lst s n1 n2 r => .lst s (fun z => n1 (List.mem_append_left _ z)) n2 (RVs.clean h r)
  | _, _, h, .dk s n1 n2 l r => .dk s (fun z => n1 (List.mem_append_left _ z)) n2 l (RVs.clean h r)
  | _, _, h, .dt s n1 n2 l r => .dt s (fun z => n1 (List.mem_append_left _ z)) n2 l (RVs.clean h r)
  | _, _, h, .ins s n1 n2 l r => .ins s (fun z => n1 (List.mem_append_left _ z)) n2 l (RVs.clean h r)
  | _, .mu k, h, .mu e => .mu (old_at e (by simpa [NL.clean] using h))
theorem RVs.clean : ∀ {v : List V} {d : List D}, NL.cleans ms.length d = true → RVs K H (ms ++ [p]) ex v d → RVs K H ms ex v d
  | _, _, _, .nil => .nil
  | _, _, h, .cons a b => .cons (RV.clean (Bool.and_eq_true_iff.mp h).1 a) (RVs.clean (Bool.and_eq_true_iff.mp h).2 b)
end
/-- what it says when it may change no more -/
theorem Raw.still {o : D} (np : p ∉ ms) (nx : p ∉ ex) (c : NL.clean ms.length o = true) (h : Raw K H (ms ++ [p]) ex p o) : RV K H ms ex (.ref p) o := by
  cases h with
  | lst e r => exact .lst e np nx (r.clean c)
  | dk e l r => exact .dk e np nx l (r.clean c)
  | dt e l r => exact .dt (.inl e) np nx l (r.clean c)
theorem Raw.old {a : Addr} {o : D} (c : NL.clean ms.length o = true) (h : Raw K H (ms ++ [p]) ex a o) : Raw K H ms ex a o := by
  cases h with
  | lst e r => exact .lst e (r.clean c)
  | dk e l r => exact .dk e l (r.clean c)
  | dt e l r => exact .dt e l (r.clean c)
mutual
theorem RV.told {o : D} (ho : RV K H ms ex (.ref p) o) : ∀ {v : V} {d : D}, RV K H (ms ++ [p]) ex v d → RV K H ms ex v (NL.told ms.length o d)
  | _, _, .non => .non
  | _, _, .bl b => .bl b
  | _, _, .int i => .int i
  | _, _, .str x => .str x
  | _, _, .tup s r => .tup s (RVs.told ho r)
  | _, _, .fz s r => .fz s (RVs.told ho r)
  | _, _, .ct s r => .ct s (RVs.told ho r)
  | _, _, .lst s n1 n2 r => .lst s (fun z => n1 (List.mem_append_left _ z)) n2 (RVs.told ho r)
  | _, _, .dk s n1 n2 l r => .dk s (fun z => n1 (List.mem_append_left _ z)) n2 (by rw [tolds_len]; exact l) (RVs.told ho r)
  | _, _, .dt s n1 n2 l r => .dt s (fun z => n1 (List.mem_append_left _ z)) n2 (by rw [tolds_len]; exact l) (RVs.told ho r)
  | _, _, .ins s n1 n2 l r => .ins s (fun z => n1 (List.mem_append_left _ z)) n2 (by rw [tolds_len]; exact l) (RVs.told ho r)
  | _, .mu k, .mu (a := a) e => by
    show RV K H ms ex (.ref a) (if k = ms.length then o else .mu k)
    by_cases z : k = ms.length
    · subst z
      rw [if_pos rfl]
      have : a = p := by
        rw [List.getElem?_append_right (Nat.le_refl _)] at e
        simpa using e.symm
      exact this ▸ ho
    · rw [if_neg z]
      exact .mu (old_at e z)
theorem RVs.told {o : D} (ho : RV K H ms ex (.ref p) o) : ∀ {v : List V} {d : List D}, RVs K H (ms ++ [p]) ex v d → RVs K H ms ex v (NL.tolds ms.length o d)
  | _, _, .nil => .nil
  | _, _, .cons a b => .cons (RV.told ho a) (RVs.told ho b)
end
/-- the thing at p may change from now on -/
theorem RM.push {d : D} (m : RM tb K H ms ex M) (np : p ∉ ms) (nx : p ∉ ex) (lift : ∀ {v : V} {c : D}, RV K H ms ex v c → RV K H (ms ++ [p]) ex v c) (h : Raw K H (ms ++ [p]) ex p d) : RM tb K H (ms ++ [p]) ex (M ++ [d]) := by
  refine ⟨by simp [m.len], ?_, fun n a c h1 h2 => ?_, fun b hb => ⟨fun z => ?_, (m.exs b hb).2⟩, m.tbs⟩
  · rw [List.nodup_append]
    exact ⟨m.nd, by simp, fun a ha b hb z => np (by simp at hb; rw [← hb, ← z]; exact ha)⟩
  · by_cases z : n = ms.length
    · subst z
      rw [List.getElem?_append_right (Nat.le_refl _)] at h1
      rw [m.len, List.getElem?_append_right (Nat.le_refl _)] at h2
      simp at h1 h2
      subst h1 h2
      exact h
    · have h1' := old_at h1 z
      have hn : n < M.length := by rw [← m.len]; exact (List.getElem?_eq_some_iff.mp h1').1
      rw [List.getElem?_append_left hn] at h2
      exact (m.at_ n a c h1' h2).of (fun _ q _ => q) (rvs_any lift)
  · rcases List.mem_append.mp z with z | z
    · exact (m.exs b hb).1 z
    · have : b = p := by simpa using z
      exact nx (this ▸ hb)
where
  rvs_any {H : Hp} {ms ms' ex : List Addr} (k : ∀ {v : V} {d : D}, RV K H ms ex v d → RV K H ms' ex v d) : ∀ {v : List V} {d : List D}, RVs K H ms ex v d → RVs K H ms' ex v d
  | _, [], h => by cases h; exact .nil
  | _, _ :: _, h => by
    cases h with
    | cons a b => exact .cons (k a) (rvs_any k b)
/-- and no more -/
theorem RM.pop {N : MM} (m : RM tb K H (ms ++ [p]) ex N) (c : (N.take ms.length).all (NL.clean ms.length) = true) : RM tb K H ms ex (N.take ms.length) := by
  have hl := m.len
  simp at hl
  refine ⟨by rw [List.length_take]; omega, (List.nodup_append.mp m.nd).1, fun n a d h1 h2 => ?_, fun b hb => ⟨fun z => (m.exs b hb).1 (List.mem_append_left _ z), (m.exs b hb).2⟩, m.tbs⟩
  have hn : n < ms.length := (List.getElem?_eq_some_iff.mp h1).1
  have cd : NL.clean ms.length d = true := List.all_eq_true.mp c d (List.mem_of_getElem? h2)
  rw [List.getElem?_take_of_lt hn] at h2
  exact (m.at_ n a d (by rw [List.getElem?_append_left hn]; exact h1) h2).old cd
end
end NL

/-! N16: y = (a thing made anew), which the rest of the def may change. -/
namespace NL
open PySem PySem.Spec PyProof.Rows L2
variable {tb : List Addr} {K : PySem.W.Frag} {H H' H1 H2 : Hp} {ms ms' ex ex' : List Addr} {M M' M1 : MM}
theorem rvs_up {H H' : Hp} {ms ms' ex ex' : List Addr} (k : ∀ {v : V} {d : D}, RV K H ms ex v d → RV K H' ms' ex' v d) : ∀ {v : List V} {d : List D}, RVs K H ms ex v d → RVs K H' ms' ex' v d
  | _, [], h => by cases h; exact .nil
  | _, _ :: _, h => by
    cases h with
    | cons a b => exact .cons (k a) (rvs_up k b)
/-- a thing made anew: from now on it may change -/
def nM (tb : List Addr) (K : PySem.W.Frag) (f : FE) : TE := fun σ H Q => ∃ ms ex r M d M', RM tb K H ms ex M ∧ Sl K H ms ex σ r ∧ f r M = some (d, M') ∧
  ∀ H' p, Ext ms H H' → H p = none → RM tb K H' (ms ++ [p]) ex (M' ++ [d]) → Q (.ref p) H'
def mNew (i : Nat) (f : FE) (g : FS) : FS := fun r M => match f r M with
  | some (d, M1) => match g (r.set i (some (.mu M1.length))) (M1 ++ [d]) with
    | some (.rt v, M2) => match M2[M1.length]? with
      | some o => if (NL.clean M1.length o && (M2.take M1.length).all (NL.clean M1.length)) = true then some (.rt (NL.told M1.length o v), M2.take M1.length) else none
      | none => none
    | _ => none
  | none => none
theorem mt_new {i : Nat} {f : FE} {g : FS} {D : Ends} {σ : L2.St} (h : sM tb K (mNew i f g) D σ H) : tSeq (tAsg (nM tb K f) (gName i)) (sM tb K g) D σ H := by
  obtain ⟨ms, ex, r, M, o, M', m, s, e, q⟩ := h
  unfold mNew at e
  split at e
  · rename_i d M1 h1
    split at e
    · rename_i v M2 h2
      split at e
      · rename_i o h3
        split at e
        · rename_i hc
          cases e
          obtain ⟨c1, c2⟩ := Bool.and_eq_true_iff.mp hc
          refine ⟨ms, ex, r, M, d, M1, m, s, h1, fun H1 p x1 hp m1 => ?_⟩
          have hlen : ms.length = M1.length := by
            have := m1.len
            simp at this
            exact this
          obtain ⟨np0, nx⟩ := fresh_ms m hp
          refine ⟨ms ++ [p], ex, r.set i (some (.mu M1.length)), M1 ++ [d], .rt v, M2, m1, ?_, h2, fun H2 x2 m2 w rw' => ?_⟩
          · have s1 : Sl K H1 (ms ++ [p]) ex σ r := ⟨s.len, fun j d' ej => by
              obtain ⟨w, g1, g2⟩ := s.at_ j d' ej
              exact ⟨w, g1, push_rv m hp x1 g2⟩⟩
            exact s1.set (.mu (by rw [← hlen, List.getElem?_append_right (Nat.le_refl _)]; simp))
          · rw [← hlen] at c1 c2 h3 q
            have m3 := m2.pop c2
            have raw := m2.at_ ms.length p o (by rw [List.getElem?_append_right (Nat.le_refl _)]; simp) h3
            have ho := raw.still np0 nx c1
            have out : ∀ b u, H b = some u → b ∉ ms → b ∉ ms ++ [p] := fun b u eb nb z => by
              rcases List.mem_append.mp z with z | z
              · exact nb z
              · have : b = p := by simpa using z
                rw [this, hp] at eb
                cases eb
            have x : Ext ms H H2 := ⟨fun b u eb nb t => x2 b u (x1 b u eb nb t) (out b u eb nb) t, fun b ps eb nb => by
              obtain ⟨ps', y⟩ := x1.tab b ps eb nb
              exact x2.tab b ps' y (out b _ eb nb)⟩
            exact q H2 x m3 w (RV.told ho rw')
        · cases e
      · cases e
    · cases e
  · cases e
/-- [..] made anew -/
theorem nm_lst {X : Cx} {es : List Expr} {pos : Pos} {fa : FA} (h : PA X es (aM tb X.K fa)) (hn : ∀ r M ds M', fa r M = some (ds, M') → ds.length ≤ 1000) : PE X (.List es pos) (nM tb X.K (mLst fa)) :=
  (pe_lst h).weak fun σ H Q h => by
    obtain ⟨ms, ex, r, M, d', M', m, s, e, q⟩ := h
    unfold mLst at e
    split at e
    · rename_i ds M1 h1
      cases e
      refine aM.use m s h1 fun H1 v1 x1 m1 s1 r1 => ⟨r1.small (hn _ _ _ _ h1), fun p hp => ?_⟩
      have sm := same_new (o := .lst v1) hp
      obtain ⟨n1, n2⟩ := fresh_ms m1 hp
      have hp0 : H p = none := x1.gone n1 hp
      have up : ∀ {v : V} {c : D}, RV X.K H1 ms ex v c → RV X.K (upd H1 p (.lst v1)) (ms ++ [p]) ex v c := fun z => push_rv m1 hp (Ext.of sm) z
      refine q _ p (x1.trans (Ext.of sm)) hp0 ⟨by simp [m1.len], ?_, fun n a c e1 e2 => ?_, fun b hb => ⟨fun z => ?_, (m1.exs b hb).2.same sm⟩, fun b hb => ?_⟩
      · rw [List.nodup_append]
        exact ⟨m1.nd, by simp, fun a ha b hb z => n1 (by simp at hb; rw [← hb, ← z]; exact ha)⟩
      · by_cases z : n = ms.length
        · subst z
          rw [List.getElem?_append_right (Nat.le_refl _)] at e1
          rw [m1.len, List.getElem?_append_right (Nat.le_refl _)] at e2
          simp at e1 e2
          subst e1 e2
          exact .lst upd_same (rvs_up up r1)
        · have e1' := old_at e1 z
          have hn := m1.len ▸ (List.getElem?_eq_some_iff.mp e1').1
          rw [List.getElem?_append_left hn] at e2
          exact (m1.at_ n a c e1' e2).of (fun _ q _ => sm _ _ q) (rvs_up up)
      · rcases List.mem_append.mp z with z | z
        · exact (m1.exs b hb).1 z
        · have : b = p := by simpa using z
          exact n2 (this ▸ hb)
      · obtain ⟨ps, e, t⟩ := m1.tbs b hb
        exact ⟨ps, sm _ _ e, t⟩
    · cases e
end NL

/-! N17: a dict made anew by a comprehension. -/
namespace NL
open PySem PySem.Spec PyProof.Rows L2
variable {tb : List Addr} {K : PySem.W.Frag} {H H' H1 H2 : Hp} {ms ms' ex ex' : List Addr} {M M' M1 : MM} {p : Addr}
variable {f fk fe : FE} {fb : FB} {ft : FT} {vs : List Nat}
theorem not_in {a : Addr} (h1 : a ∉ ms) (h2 : a ∉ p :: ex) : a ∉ ms ++ [p] ∧ a ∉ ex := by
  refine ⟨fun z => ?_, fun z => h2 (List.mem_cons_of_mem _ z)⟩
  rcases List.mem_append.mp z with z | z
  · exact h1 z
  · have : a = p := by simpa using z
    exact h2 (this ▸ List.mem_cons_self)
mutual
/-- the thing in making, made -/
theorem RV.made : ∀ {v : V} {d : D}, RV K H ms (p :: ex) v d → RV K H (ms ++ [p]) ex v d
  | _, _, .non => .non
  | _, _, .bl b => .bl b
  | _, _, .int i => .int i
  | _, _, .str x => .str x
  | _, _, .tup s r => .tup s (RVs.made r)
  | _, _, .fz s r => .fz s (RVs.made r)
  | _, _, .ct s r => .ct s (RVs.made r)
  | _, _, .lst s n1 n2 r => .lst s (not_in n1 n2).1 (not_in n1 n2).2 (RVs.made r)
  | _, _, .dk s n1 n2 l r => .dk s (not_in n1 n2).1 (not_in n1 n2).2 l (RVs.made r)
  | _, _, .dt s n1 n2 l r => .dt s (not_in n1 n2).1 (not_in n1 n2).2 l (RVs.made r)
  | _, _, .ins s n1 n2 l r => .ins s (not_in n1 n2).1 (not_in n1 n2).2 l (RVs.made r)
  | _, _, .mu e => .mu (by rw [List.getElem?_append_left (List.getElem?_eq_some_iff.mp e).1]; exact e)
theorem RVs.made : ∀ {v : List V} {d : List D}, RVs K H ms (p :: ex) v d → RVs K H (ms ++ [p]) ex v d
  | _, _, .nil => .nil
  | _, _, .cons a b => .cons (RV.made a) (RVs.made b)
end
theorem Raw.made {a : Addr} {d : D} (h : Raw K H ms (p :: ex) a d) : Raw K H (ms ++ [p]) ex a d := by
  cases h with
  | lst e r => exact .lst e r.made
  | dk e l r => exact .dk e l r.made
  | dt e l r => exact .dt e l r.made
theorem RM.made {d : D} (m : RM tb K H ms (p :: ex) M) (nx : p ∉ ex) (h : Raw K H ms (p :: ex) p d) : RM tb K H (ms ++ [p]) ex (M ++ [d]) := by
  have np := (m.exs p List.mem_cons_self).1
  refine ⟨by simp [m.len], ?_, fun n a c e1 e2 => ?_, fun b hb => ⟨fun z => ?_, (m.exs b (List.mem_cons_of_mem _ hb)).2⟩, m.tbs⟩
  · rw [List.nodup_append]
    exact ⟨m.nd, by simp, fun a ha b hb z => np (by simp at hb; rw [← hb, ← z]; exact ha)⟩
  · by_cases z : n = ms.length
    · subst z
      rw [List.getElem?_append_right (Nat.le_refl _)] at e1
      rw [m.len, List.getElem?_append_right (Nat.le_refl _)] at e2
      simp at e1 e2
      subst e1 e2
      exact h.made
    · have e1' := old_at e1 z
      have hn := m.len ▸ (List.getElem?_eq_some_iff.mp e1').1
      rw [List.getElem?_append_left hn] at e2
      exact (m.at_ n a c e1' e2).made
  · rcases List.mem_append.mp z with z | z
    · exact (m.exs b (List.mem_cons_of_mem _ hb)).1 z
    · have : b = p := by simpa using z
      exact nx (this ▸ hb)
/-- {k: v for ..} made anew, over a list, over a tuple -/
theorem nt_dcL {u0 : HO} {o0 : D} {σ : L2.St} {Q : VK} (n0 : New0 u0 o0) (h : nM tb K (mDc o0 itemsL f ft fb fk fe vs) σ H Q) : HX.tDx u0 (iList K (eM tb K f)) (gW K vs ft) (bM tb K fb) (eM tb K fk) (eM tb K fe) vs σ H Q := by
  obtain ⟨ms, ex, r, M, o, M', m, s, e, q⟩ := h
  unfold mDc at e
  split at e
  · rename_i d M1 h1
    split at e
    · rename_i xs h2
      refine eM.use m s h1 fun H1 v1 x1 m1 s1 r1 => ?_
      unfold itemsL at h2
      split at h2
      · cases h2
        cases r1 with
        | lst sq n1 n2 rr => exact ⟨_, rfl, ⟨_, SqL.of sq⟩, dc_rd0 n0 m1 s1 e (fun p H2 hp x2 m2 raw => q H2 p (x1.trans x2) (x1.gone (fresh_ms m1 hp).1 hp) (m2.made (fresh_ms m1 hp).2 raw)) (fun i H' d x hd => itl_go0 m1 sq n1 rr i H' d x hd) (fun H' x => itl_stop sq n1 rr H' x)⟩
      · cases h2
    · cases e
  · cases e
theorem nt_dcT {u0 : HO} {o0 : D} {σ : L2.St} {Q : VK} (n0 : New0 u0 o0) (h : nM tb K (mDc o0 itemsT f ft fb fk fe vs) σ H Q) : HX.tDx u0 (iTup K (eM tb K f)) (gW K vs ft) (bM tb K fb) (eM tb K fk) (eM tb K fe) vs σ H Q := by
  obtain ⟨ms, ex, r, M, o, M', m, s, e, q⟩ := h
  unfold mDc at e
  split at e
  · rename_i d M1 h1
    split at e
    · rename_i xs h2
      refine eM.use m s h1 fun H1 v1 x1 m1 s1 r1 => ?_
      unfold itemsT at h2
      split at h2
      · cases h2
        cases r1 with
        | tup sq rr => exact ⟨_, rfl, ⟨_, SqT.of sq⟩, dc_rd0 n0 m1 s1 e (fun p H2 hp x2 m2 raw => q H2 p (x1.trans x2) (x1.gone (fresh_ms m1 hp).1 hp) (m2.made (fresh_ms m1 hp).2 raw)) (fun i H' d x hd => itt_go0 m1 (SqT.of sq) rr i H' d x hd) (fun H' x => itt_stop m1 (SqT.of sq) rr H' x)⟩
      · cases h2
    · cases e
  · cases e
end NL

/-! N18: {} made anew. -/
namespace NL
open PySem PySem.Spec PyProof.Rows L2
variable {tb : List Addr} {K : PySem.W.Frag} {H H' H1 H2 : Hp} {ms ms' ex ex' : List Addr} {M M' M1 : MM} {p : Addr}
/-- a new thing at p -/
theorem RM.anew {o : HO} {d : D} (m : RM tb K H ms ex M) (hp : H p = none) (h : Raw K (upd H p o) ms (p :: ex) p d) : RM tb K (upd H p o) (ms ++ [p]) ex (M ++ [d]) :=
  (lock_newO m hp h.thing).made (fresh_ms m hp).2 h
def mNewD (o0 : D) : FE := fun _ M => some (o0, M)
theorem nt_dic {u0 : HO} {o0 : D} (n0 : New0 u0 o0) {σ : L2.St} {Q : VK} (h : nM tb K (mNewD o0) σ H Q) : ∀ a, H a = none → Q (.ref a) (upd H a u0) := by
  intro a ha
  obtain ⟨ms, ex, r, M, o, M', m, s, e, q⟩ := h
  cases e
  exact q _ a (Ext.of (same_new ha)) ha (m.anew ha n0.raw)
end NL
namespace NL
open PySem PySem.Spec PyProof.Rows L2
variable {tb : List Addr} {K : PySem.W.Frag} {H : Hp} {ms ex : List Addr} {M : MM}
/-- o.append(e), o a list that may change -/
def mApp (M : MM) (o d : D) : Option MM := match o with
  | .mu n => match M[n]? with
    | some (.lst ds) => if ds.length ≤ 1000 then some (M.set n (.lst (ds ++ [d]))) else none
    | _ => none
  | _ => none
theorem app_ok {o d : D} {x y : V} {N : MM} (m : RM tb K H ms ex M) (rx : RV K H ms ex x o) (ry : RV K H ms ex y d) (e : mApp M o d = some N) {Q : VK} (q : ∀ H', Ext ms H H' → RM tb K H' ms ex N → Q .non H') : rAppend x [y] H Q := by
  unfold mApp at e
  split at e
  · rename_i n
    split at e
    · rename_i ds h1
      split at e
      · rename_i hl
        cases e
        cases rx with
        | mu e1 =>
          cases m.at_ _ _ _ e1 h1 with
          | lst sq rr =>
            have few := rr.length
            obtain ⟨x1, m1⟩ := m.store e1 (List.getElem?_eq_some_iff.mp h1).1 (fun _ z => by cases z) (.inl ⟨_, sq⟩) fun x => .lst upd_same ((rr.append (.cons ry .nil)).ext m x)
            exact ⟨_, _, y, rfl, rfl, sq, small1000 (by omega), q _ x1 m1⟩
      · cases e
    · cases e
  · cases e
end NL

/-! N19: list(range(..)), tuple(range(..)), t[::-1]. -/
namespace NL
open PySem PySem.Spec PyProof.Rows L2
variable {tb : List Addr} {K : PySem.W.Frag} {H H' H1 : Hp} {ms ms' ex ex' : List Addr} {M M' M1 : MM}
variable {X : Cx} {pos p2 p p1 p3 : Pos} {a b : Expr} {f g : FE} {fa : FA}
theorem rgV_rv (i j : Int) : RVs K H ms ex (rgV i j) (rangeD i (j - i).toNat) := by
  have := RVs.of_ints (K := K) (H := H) (ms := ms) (ex := ex) ((List.range (j - i).toNat).map fun k => i + (k : Nat))
  rw [List.map_map, List.map_map] at this
  exact this
/-- the ends of range(e), range(e, e') -/
def mEnd1 (f : FE) : En → MM → Option ((Int × Int) × MM) := fun r M => match f r M with
  | some (.int j, M1) => if j.natAbs ≤ 1000 then some ((0, j), M1) else none
  | _ => none
def mEnd2 (f g : FE) : En → MM → Option ((Int × Int) × MM) := fun r M => match f r M with
  | some (.int i, M1) => match g r M1 with
    | some (.int j, M2) => if i.natAbs ≤ 1000 ∧ j.natAbs ≤ 1000 then some ((i, j), M2) else none
    | _ => none
  | _ => none
abbrev TRg := L2.St → Hp → (Int → Int → Hp → Prop) → Prop
def EndOk (tb : List Addr) (K : PySem.W.Frag) (te : TRg) (fe : En → MM → Option ((Int × Int) × MM)) : Prop := ∀ {ms ex : List Addr} {H : Hp} {M M1 : MM} {r : En} {σ : L2.St} {i j : Int} {Φ : Int → Int → Hp → Prop}, RM tb K H ms ex M → Sl K H ms ex σ r → fe r M = some ((i, j), M1) →
  (∀ H1, Ext ms H H1 → RM tb K H1 ms ex M1 → Sl K H1 ms ex σ r → RgOk i j → (j - i).toNat ≤ 2000 → Φ i j H1) → te σ H Φ
theorem end_1 : EndOk tb K (tRg1 (eM tb K f)) (mEnd1 f) := by
  intro ms ex H M M1 r σ i j Φ m s e q
  unfold mEnd1 at e
  split at e
  · rename_i j' M2 h1
    split at e
    · rename_i hb
      cases e
      refine eM.use m s h1 fun H1 v1 x1 m1 s1 r1 => ?_
      cases r1
      exact ⟨_, rfl, q H1 x1 m1 s1 ⟨by omega, by omega, by omega, by omega, by omega⟩ (by omega)⟩
    · cases e
  · cases e
theorem end_2 : EndOk tb K (tRg2 (eM tb K f) (eM tb K g)) (mEnd2 f g) := by
  intro ms ex H M M1 r σ i j Φ m s e q
  unfold mEnd2 at e
  split at e
  · rename_i i' M2 h1
    split at e
    · rename_i j' M3 h2
      split at e
      · rename_i hb
        cases e
        refine eM.use m s h1 fun H1 v1 x1 m1 s1 r1 => ?_
        cases r1
        refine eM.use m1 s1 h2 fun H2 v2 x2 m2 s2 r2 => ?_
        cases r2
        exact ⟨_, _, rfl, rfl, q H2 (x1.trans x2) m2 s2 ⟨by omega, by omega, by omega, by omega, by omega⟩ (by omega)⟩
      · cases e
    · cases e
  · cases e
def mLstR (fe : En → MM → Option ((Int × Int) × MM)) : FE := fun r M => match fe r M with
  | some ((i, j), M1) => some (.lst (rangeD i (j - i).toNat), M1)
  | none => none
def mTupR (fe : En → MM → Option ((Int × Int) × MM)) : FE := fun r M => match fe r M with
  | some ((i, j), M1) => some (.tup (rangeD i (j - i).toNat), M1)
  | none => none
theorem me_lstR {te : TRg} {fe} {e : Expr} (hc : X.calm = true) (hg : Gl X "list") (hm : X.mg "list" = none) (hE : EndOk tb X.K te fe) (he : PRg X e te) (na : starEach [e] X.env = (false, eval e X.env) :: starEach [] X.env := by rfl) :
    PE X (.Call (.Name "list" p) [e] [] pos) (eM tb X.K (mLstR fe)) := (pe_listRg hc hg hm he na).weak fun σ H Q h => by
  obtain ⟨ms, ex, r, M, d', M', m, s, e, q⟩ := h
  unfold mLstR at e
  split at e
  · rename_i i j M1 h1
    cases e
    refine hE m s h1 fun H1 x1 m1 s1 ok _ => ⟨ok, fun l hl => ?_⟩
    obtain ⟨x2, m2, r2⟩ := new_lst m1 hl (rgV_rv i j)
    exact q _ _ (x1.trans x2) m2 r2
  · cases e
theorem me_tupR {te : TRg} {fe} {e : Expr} (hc : X.calm = true) (hg : Gl X "tuple") (hm : X.mg "tuple" = none) (hE : EndOk tb X.K te fe) (he : PRg X e te) (na : starEach [e] X.env = (false, eval e X.env) :: starEach [] X.env := by rfl) :
    PE X (.Call (.Name "tuple" p) [e] [] pos) (eM tb X.K (mTupR fe)) := (pe_tupRg hc hg hm he na).weak fun σ H Q h => by
  obtain ⟨ms, ex, r, M, d', M', m, s, e, q⟩ := h
  unfold mTupR at e
  split at e
  · rename_i i j M1 h1
    cases e
    refine hE m s h1 fun H1 x1 m1 s1 ok _ => ⟨ok, fun l hl => ?_⟩
    obtain ⟨x2, m2, r2⟩ := new_tup m1 hl (rgV_rv i j)
    exact q _ _ (x1.trans x2) m2 r2
  · cases e
/-- .. made anew: it may change from now on -/
theorem nm_lstR {te : TRg} {fe} {e : Expr} (hc : X.calm = true) (hg : Gl X "list") (hm : X.mg "list" = none) (hE : EndOk tb X.K te fe) (he : PRg X e te) (na : starEach [e] X.env = (false, eval e X.env) :: starEach [] X.env := by rfl) :
    PE X (.Call (.Name "list" p) [e] [] pos) (nM tb X.K (mLstR fe)) := (pe_listRg hc hg hm he na).weak fun σ H Q h => by
  obtain ⟨ms, ex, r, M, d', M', m, s, e, q⟩ := h
  unfold mLstR at e
  split at e
  · rename_i i j M1 h1
    cases e
    refine hE m s h1 fun H1 x1 m1 s1 ok _ => ⟨ok, fun l hl => ?_⟩
    exact q _ l (x1.trans (Ext.of (same_new hl))) (x1.gone (fresh_ms m1 hl).1 hl) (m1.anew hl (.lst upd_same (rgV_rv i j)))
  · cases e
/-! ### t[::-1] -/
theorem adjust_rev (n : Nat) : Builtin.Slice.sliceAdjust none none (-1) (n : Int) = ((n : Int) - 1, -1) := rfl
theorem places_rev (n : Nat) : Builtin.Slice.slicePlaces ((n : Int) - 1) (-1) (-1) = n := by
  unfold Builtin.Slice.slicePlaces
  rw [if_neg (by decide)]
  by_cases h : n = 0
  · subst h
    rfl
  · rw [if_pos (by omega)]
    have : ((n : Int) - 1 - -1 - 1) / (- -1) + 1 = n := by
      have : (- (-1) : Int) = 1 := rfl
      rw [this, Int.ediv_one]
      omega
    rw [this]
    exact Int.toNat_natCast n
theorem pick_rev (xs : Array Value) : ((List.range xs.size).filterMap fun (k : Nat) => xs[((xs.size : Int) - 1 + (k : Int) * (-1)).toNat]?).toArray = xs.toList.reverse.toArray := by
  congr 1
  refine List.ext_getElem? fun i => ?_
  have hall : ∀ k ∈ List.range xs.size, xs[((xs.size : Int) - 1 + (k : Int) * (-1)).toNat]? = some (xs.toList.reverse.getD k Value.none) := by
    intro k hk
    have hk := List.mem_range.mp hk
    have e : ((xs.size : Int) - 1 + (k : Int) * (-1)).toNat = xs.size - 1 - k := by omega
    rw [e, List.getD_eq_getElem?_getD, List.getElem?_reverse (by simpa using hk), ← Array.getElem?_toList]
    have hl : xs.size - 1 - k < xs.toList.length := by
      rw [Array.length_toList]
      omega
    rw [Array.length_toList, List.getElem?_eq_getElem hl]
    rfl
  have gen : ∀ (l : List Nat) (φ : Nat → Option Value) (ψ : Nat → Value), (∀ k ∈ l, φ k = some (ψ k)) → l.filterMap φ = l.map ψ := by
    intro l φ ψ
    induction l with
    | nil => intro _; rfl
    | cons k l ih =>
      intro h
      rw [List.filterMap_cons, h k List.mem_cons_self, List.map_cons, ih fun j hj => h j (List.mem_cons_of_mem _ hj)]
  rw [gen _ _ _ hall, List.getElem?_map]
  by_cases hi : i < xs.size
  · rw [List.getElem?_range hi]
    have hl : i < xs.toList.reverse.length := by simpa using hi
    show some (xs.toList.reverse.getD i Value.none) = _
    rw [List.getD_eq_getElem?_getD, List.getElem?_eq_getElem hl]
    rfl
  · rw [List.getElem?_eq_none (by simpa using hi), List.getElem?_eq_none (by simpa using hi)]
    rfl
theorem getItem_tupRev {P : Program} {w : World} {A : Around} {E : Value → Shared → Prop} {s : Shared} {t sl : Addr} {its : List Value} {vl vu vs : Value} {Q : Value → Shared → Prop} (ht : IsTup s.heap t its.toArray) (hs : s.heap.IsSliceOf sl vl vu vs)
    (pl : IsPart vl none) (pu : IsPart vu none) (ps : IsPart vs (some (-1))) (hz : its.length ≤ sizeLine) (h : Q (.ref s.heap.objs.size) { s with heap := s.heap.push { cls := .type "tuple", data := .seq its.reverse.toArray } }) : wpAny (model P w) A (getItem (.ref t) (.ref sl)) Q E s := by
  obtain ⟨o, ho, hcls, hdat⟩ := id hs
  have hT : s.TypeIs (.ref sl) "slice" := ⟨o, ho, hcls⟩
  unfold getItem
  try with_reducible refine wpAny_holding ?_
  first | refine wpAny_bind (wpAny_pure ?_) | skip
  refine wpAny_bind (wpAny_sequenceKey ht.typeIs (by decide) ?_)
  refine wpAny_bind (wpAny_callSpecial?_slot (name := Str.ofString "__getitem__") ht.typeIs slot_tuple_getitem (wpAny_call_entry slot_tuple_getitem ht.typeIs entry_tuple_getitem ?_ (args_tuple_getitem _ _)))
  show wpAny _ _ (Builtin.Tuple.tupleItemsOf (.ref t) >>= _) _ _ s
  refine wpAny_bind (tupleItemsOf_ ht (wpAny_bind (wpAny_typeOf hT ?_)))
  rw [if_pos (by decide)]
  refine wpAny_bind ?_
  unfold Builtin.Slice.sliceApplied Builtin.Slice.sliceFields
  refine wpAny_bind (wpAny_bind (wpAny_field ho hdat (x := vl) rfl (wpAny_bind (wpAny_field ho hdat (x := vu) rfl (wpAny_bind (wpAny_field ho hdat (x := vs) rfl (wpAny_pure ?_)))))))
  refine wpAny_bind (HT.slicePart_ ps ?_)
  show wpAny _ _ (if ((-1 : Int) == 0) = true then _ else _) _ _ s
  rw [if_neg (by decide)]
  refine wpAny_bind (HT.slicePart_ pl (wpAny_bind (HT.slicePart_ pu (wpAny_bind (wpAny_pure ?_)))))
  show wpAny _ _ (match Builtin.Slice.sliceAdjust none none (-1) (its.toArray.size : Int) with | (lo, hi) => Pure.pure (lo, (-1 : Int), Builtin.Slice.slicePlaces lo hi (-1))) _ _ s
  rw [adjust_rev]
  show wpAny _ _ (Pure.pure ((its.toArray.size : Int) - 1, (-1 : Int), Builtin.Slice.slicePlaces ((its.toArray.size : Int) - 1) (-1) (-1))) _ _ s
  rw [places_rev]
  refine wpAny_pure ?_
  have no : (((its.toArray.size : Int) - 1 == 0) && ((-1 : Int) == 1) && (its.toArray.size == its.toArray.size)) = false := by
    rw [show ((-1 : Int) == 1) = false from rfl, Bool.and_false, Bool.false_and]
  show wpAny _ _ (if (((its.toArray.size : Int) - 1 == 0) && ((-1 : Int) == 1) && (its.toArray.size == its.toArray.size)) = true then _ else _) _ _ s
  rw [no, if_neg Bool.false_ne_true]
  refine wpAny_bind ?_
  unfold Builtin.Tuple.tupleExact
  refine wpAny_newObj_type ?_ (by rw [pick_rev]; show its.reverse.toArray.size ≤ sizeLine; simpa using hz)
  rw [pick_rev]
  exact wpAny_pure ⟨_, rfl, wpAny_pure h⟩
def mRev (f : FE) : FE := fun r M => match f r M with
  | some (.tup xs, M1) => some (.tup xs.reverse, M1)
  | _ => none
theorem RVs.rev : ∀ {vs : List V} {ds : List D}, RVs K H ms ex vs ds → RVs K H ms ex vs.reverse ds.reverse
  | _, _, .nil => .nil
  | _, _, .cons a b => by
    rw [List.reverse_cons, List.reverse_cons]
    exact b.rev.append (.cons a .nil)
theorem me_rev {k : Nat} (he : PE X a (eM tb X.K f)) : PE X (.Subscript a (.Slice none none (some (.UnaryOp .USub (.Constant (.int 1) k p1) p2)) p3) pos) (eM tb X.K (mRev f)) := by
  refine ⟨fun pins s σ H Q I h => ?_⟩
  obtain ⟨ms, ex, r, M, d', M', m, sl, e, q⟩ := h
  unfold mRev at e
  split at e
  · rename_i xs M1 h1
    cases e
    refine Subscript_ (thn (he.run pins s σ H (fun v H' => Ext ms H H' ∧ RM tb X.K H' ms ex M' ∧ RV X.K H' ms ex v (.tup xs)) I ⟨ms, ex, r, M, _, M', m, sl, h1, fun H' v x m' r' => ⟨x, m', r'⟩⟩) fun v s1 ⟨x, H1, I1, r1, q1⟩ => ?_)
    obtain ⟨x1, m1, rv⟩ := q1
    cases rv with
    | tup sq rr =>
      rename_i ad vs0
      have ev : v = .ref ad := r1
      subst ev
      have hst : PO X (some (.UnaryOp .USub (.Constant (.int 1) k p1) p2)) (tPart (tUn (rU fun i => .int (-i)) (tC (.int 1)))) := po_some (pe_un un_neg pe_int)
      refine wpAny_Slice (thn (po_none.run pins s1 σ H1 (fun o H2 => o = none ∧ H2 = H1) I1 ⟨rfl, rfl⟩) fun vl s2 ⟨l, H2, I2, pl, el, e2⟩ => ?_)
      subst el e2
      refine thn (po_none.run pins s2 σ H2 (fun o H3 => o = none ∧ H3 = H2) I2 ⟨rfl, rfl⟩) fun vu s3 ⟨u, H3, I3, pu, eu, e3⟩ => ?_
      subst eu e3
      refine thn (hst.run pins s3 σ H3 (fun o H4 => o = some (-1) ∧ H4 = H3) I3 ⟨1, rfl, -1, rfl, rfl, rfl⟩) fun vs s4 ⟨o, H4, I4, ps, eo, e4⟩ => ?_
      subst eo e4
      have I5 : Inv X pins σ H4 { s4 with heap := s4.heap.push { cls := .type "slice", data := .fields #[vl, vu, vs] } } := I4.kept (t' := s4.toks) fun b ob q => Heap.get?_push_of_some _ q
      obtain ⟨its, rel, ht, hz⟩ := I5.tuple (SqT.of sq)
      refine tail_any (ops := [.ref ad, .ref s4.heap.objs.size]) ht.typeIs slot_tuple_getitem.lookup ?_ (by with_unfolding_all rfl)
      refine getItem_tupRev ht (Heap.IsSliceOf.new _ vl vu vs) pl pu ps (by rw [← rel.length]; exact hz) ?_
      have hp := I5.hok.fresh (Nat.le_refl _)
      obtain ⟨x6, m6, r6⟩ := new_tup m1 hp rr.rev
      exact ⟨.ref _, _, I5.laid (t' := s4.toks) (o := .tup vs0.reverse) (fun b ob q => Heap.get?_push_of_some _ q) (Nat.le_refl _) ⟨by rw [List.length_reverse]; exact hz, _, rel.reverse, IsTup.new _ _⟩, rfl, q _ _ (x1.trans x6) m6 r6⟩
  · cases e
end NL

/-! N20: a small def called where nothing but the heap is known; tuple(x for x in range(n) if f(y, x) in t). -/
namespace NL
open PySem PySem.Spec PyProof.Rows L2
mutual
theorem reads_but {h h' : Heap} {T : Addr} (hT : ∀ o, h.get? T = some o → o.cls = .none) (k : ∀ b o, b ≠ T → h.get? b = some o → h'.get? b = some o) : ∀ {v : Value} {d : PyData} {as : List Addr}, Reads h v d as → PyData.plain d = true → Reads h' v d as
  | _, _, _, .none, _ => .none
  | _, _, _, .bool b, _ => .bool b
  | _, _, _, .int i t, _ => .int i t
  | _, _, _, .str x t, _ => .str x t
  | _, _, _, .list (a := a) h1 h2 h3 h4, p => .list (k a _ (fun z => by rw [z] at h1; rw [hT _ h1] at h2; cases h2) h1) h2 h3 (readsAll_but hT k h4 p)
  | _, _, _, .tuple (a := a) h1 h2 h3 h4, p => .tuple (k a _ (fun z => by rw [z] at h1; rw [hT _ h1] at h2; cases h2) h1) h2 h3 (readsAll_but hT k h4 p)
  | _, _, _, .dict h1 h2 h3 h4 h5, p => by cases p
theorem readsAll_but {h h' : Heap} {T : Addr} (hT : ∀ o, h.get? T = some o → o.cls = .none) (k : ∀ b o, b ≠ T → h.get? b = some o → h'.get? b = some o) : ∀ {v : List Value} {d : List PyData} {as : List Addr}, ReadsAll h v d as → PyData.plainAll d = true → ReadsAll h' v d as
  | _, _, _, .nil, _ => .nil
  | _, _, _, .cons h1 h2, p => .cons (reads_but hT k h1 (Bool.and_eq_true_iff.mp p).1) (readsAll_but hT k h2 (Bool.and_eq_true_iff.mp p).2)
end
theorem keeps_trans {s s1 s2 : Shared} (a : Keeps s s1) (b : Keeps s1 s2) : Keeps s s2 := by
  obtain ⟨h1, t1, rfl, k1⟩ := a
  obtain ⟨h2, t2, rfl, k2⟩ := b
  exact ⟨h2, t2, rfl, fun c o e => k2 c o (k1 c o e)⟩
theorem keeps_push (s : Shared) (o : Obj) : Keeps s { s with heap := s.heap.push o } := ⟨_, s.toks, rfl, fun _ _ e => Heap.get?_push_of_some _ e⟩
section
variable {P : Program} {w : World} {K : PySem.W.Frag} {A : Around} {E : Value → Shared → Prop} {s : Shared}
/-- the lesser one first -/
def lo2 (i j : Int) : Int := if i < j then i else j
def hi2 (i j : Int) : Int := if i < j then j else i
/-- f(i, j), f's body: return (one, other) if one < other else (other, one) -/
theorem call_pair {x q : Str} {st : Stmt} {f : Addr} {fd : FuncData} {p1 p2 p3 p4 p5 p6 p7 p8 p9 p10 p11 : Pos} {x1 x2} (F : Fun K x q st f fd) (S : FnScope ["one", "other"] ["one", "other"] (defScope st)) (hB : Binds K fd ["one", "other"] [])
    (k1 : (defScope st).names.lookup ("one" : Str) = some .local) (k2 : (defScope st).names.lookup ("other" : Str) = some .local)
    (hbd : defBody st = [.Return (some (.IfExp (.Compare (.Name "one" p1) [.Lt] [.Name "other" p2] p3) (.Tuple [.Name "one" p4, .Name "other" p5] x1 p6) (.Tuple [.Name "other" p7, .Name "one" p8] x2 p9) p10)) p11])
    (KX : K.In s.heap) (lim : s.heap.NoLimit) (hr : A.depth < recursionLimit) {i j : Int} {t u : Tok} {Q : Value → Shared → Prop}
    (h : ∀ s' a t' u', Keeps s s' → IsTup s'.heap a #[.int (lo2 i j) t', .int (hi2 i j) u'] → Q (.ref a) s') : wpAny (model P w) A (call (.ref f) [.int i t, .int j u]) Q E s := by
  have hb := hB s [.int i t, .int j u] KX rfl
  obtain ⟨oc, od, kV, doc, pm, an, cdv, ct, osl, rfl, lk, hcd⟩ := F.ex
  have nd : (["one", "other"] : List Str).Nodup := S.nd
  refine wpAny_call (codeAny_call_function hr (KX _ _ lk) rfl S.co S.gen rfl (PySem.W.codeRec_of KX hcd) (hb _ _ _ _ ?_))
  refine wpAny_newFunctionEnv_cells S.kind (fun y hy => ?_) fun env he s1 z => ?_
  · have := (List.of_mem_zip (show (y.1, y.2) ∈ _ from hy)).1
    rcases S.par y.1 this with g | g
    · exact .inl g
    · exact .inr ⟨g, PySem.W.cellsFrom_some _ _ _ (.inl g)⟩
  obtain ⟨h1, tk, e1, hk⟩ := z.done
  have kp : Keeps s s1 := ⟨h1, tk, e1, hk⟩
  have ns := z.toInCall.ns
  have ek : env.scope.kind = .function := by rw [he]; exact S.kind
  have e1k : env.kindOf "one" = some .local := by rw [he]; exact k1
  have e2k : env.kindOf "other" = some .local := by rw [he]; exact k2
  refine ⟨lim.keeps z.toInCall.keep, codeAny_func ?_⟩
  rw [hbd]
  have g1 : ∀ {pos : Pos} {Q' : Value → Shared → Prop} {A' : Around} {E' : Value → Shared → Prop}, Q' (.int i t) s1 → wpAny (model P w) A' (eval (.Name "one" pos) env) Q' E' s1 := fun hq =>
    wpAny_Name (wpAny_loadName_local ek e1k ns (bindL_get (i := 0) nd rfl rfl e1k) hq) (by decide)
  have g2 : ∀ {pos : Pos} {Q' : Value → Shared → Prop} {A' : Around} {E' : Value → Shared → Prop}, Q' (.int j u) s1 → wpAny (model P w) A' (eval (.Name "other" pos) env) Q' E' s1 := fun hq =>
    wpAny_Name (wpAny_loadName_local ek e2k ns (bindL_get (i := 1) nd rfl rfl e2k) hq) (by decide)
  refine wpAny_execs_cons (wpAny_Return_some (wpAny_IfExp (wpAny_isTrue_Compare1 (g1 (g2 (lt_int (wpAny_truthy_bool ?_)))))))
  by_cases c : i < j
  · rw [decide_eq_true c, if_pos rfl]
    refine wpAny_Tuple_spliced (args_cons (g1 (args_cons (g2 (args_nil ⟨(by show (2 : Nat) ≤ sizeLine; decide), ?_⟩)))))
    refine h _ _ t u (keeps_trans kp (keeps_push _ _)) ?_
    unfold lo2 hi2
    rw [if_pos c, if_pos c]
    exact IsTup.new _ _
  · rw [decide_eq_false c, if_neg Bool.false_ne_true]
    refine wpAny_Tuple_spliced (args_cons (g2 (args_cons (g1 (args_nil ⟨(by show (2 : Nat) ≤ sizeLine; decide), ?_⟩)))))
    refine h _ _ u t (keeps_trans kp (keeps_push _ _)) ?_
    unfold lo2 hi2
    rw [if_neg c, if_neg c]
    exact IsTup.new _ _
end
/-! ### range(n) as a value -/
theorem cr_range1 {X : Cx} : CallR X (.type "range") (fun vs H Q => ∃ j, vs = [V.int j] ∧ ∀ p, H p = none → Q (.ref p) (upd H p (.rng 0 j))) := by
  intro pins s σ H vs us Q I r h
  obtain ⟨j, rfl, q⟩ := h
  cases r with
  | cons r rr =>
    cases rr
    obtain ⟨t, rfl⟩ := r
    refine call_range_1 ⟨.ref s.heap.objs.size, upd H s.heap.objs.size (.rng 0 j), I.laid (t' := s.toks + 1 + 1) (fun b o e => Heap.get?_push_of_some _ e) (Nat.le_refl _) ?_, rfl, q _ (I.hok.fresh (Nat.le_refl _))⟩
    exact ⟨_, t, _, Heap.get?_push_size _ rfl⟩
section
variable {X : Cx}
/-- tuple(x for x in range(company[0]) if f(person, x) in company[1]) -/
def mKnown (i j : Nat) : FE := fun r M => match r[i]?, r[j]? with
  | some (some (.int q)), some (some (.tup [.int n, .tup ts])) =>
    if 0 ≤ n ∧ n ≤ 1000 ∧ okD (.tup ts) = true then some (.tup (((List.range n.toNat).filter fun (k : Nat) => anyEq (.tup [.int (lo2 q k), .int (hi2 q k)]) ts).map fun (k : Nat) => .int (k : Nat)), M) else none
  | _, _ => none
variable {tb : List Addr} {c T f : Addr} {fd : FuncData} {st : Stmt} {x qf qq : Str}
theorem me_known {i j k : Nat} {y z g : Str} {scope : Scope} {p1 p2 p3 p4 p5 p6 p7 p8 p9 p10 p11 : Pos} {x1 x2} {pa pb pc pd pe pf pg ph pi pj pk pl pm pn pq gpos pos p : Pos} {n1 n2}
    (F : Fun X.K qf qq st f fd) (S' : FnScope ["one", "other"] ["one", "other"] (defScope st)) (hB : Binds X.K fd ["one", "other"] [])
    (k1 : (defScope st).names.lookup ("one" : Str) = some .local) (k2 : (defScope st).names.lookup ("other" : Str) = some .local)
    (hbd : defBody st = [.Return (some (.IfExp (.Compare (.Name "one" p1) [.Lt] [.Name "other" p2] p3) (.Tuple [.Name "one" p4, .Name "other" p5] x1 p6) (.Tuple [.Name "other" p7, .Name "one" p8] x2 p9) p10)) p11])
    (hf : X.mg g = some (.ref f)) (hr : Room k X.A) (hg : Gl X "tuple") (hm : X.mg "tuple" = none) (hg2 : Gl X "range") (hm2 : X.mg "range" = none) (TB : GxR.TabB X.base X.mg c T) (hT : T ∈ tb) (hcode : X.env.code = .ref c) (S : GxR.GenS X.env scope x)
    (hi : X.N[i]? = some y) (hj : X.N[j]? = some z) (vi : X.env.scope.names.lookup y = some .cell) (vj : X.env.scope.names.lookup z = some .cell)
    (fy : scope.names.lookup y = some .free) (fz : scope.names.lookup z = some .free) (ng : scope.names.lookup g = some .globalImplicit)
    (dg : (g == ("__debug__" : Str)) = false) (dx : (x == ("__debug__" : Str)) = false) (dy : (y == ("__debug__" : Str)) = false) (dz : (z == ("__debug__" : Str)) = false) (dy2 : (y == ("__classdict__" : Str)) = false) (dz2 : (z == ("__classdict__" : Str)) = false)
    (fold : ∀ v, genFold (.Call (.Name "range" pb) [.Subscript (.Name z pc) (.Constant (.int 0) n1 pd) pe] [] pf) X.env v = Pure.pure v) :
    PE X (.Call (.Name "tuple" p) [.GeneratorExp (.Name x pq) [⟨.Name x pa, .Call (.Name "range" pb) [.Subscript (.Name z pc) (.Constant (.int 0) n1 pd) pe] [] pf,
      [.Compare (.Call (.Name g pg) [.Name y ph, .Name x pi] [] pj) [.In] [.Subscript (.Name z pk) (.Constant (.int 1) n2 pl) pm] pn], 0⟩] scope gpos] [] pos) (eM tb X.K (mKnown i j)) := by
  have hite : PE X (.Call (.Name "range" pb) [.Subscript (.Name z pc) (.Constant (.int 0) n1 pd) pe] [] pf) (tCB (fun vs H Q => ∃ j, vs = [V.int j] ∧ ∀ p, H p = none → Q (.ref p) (upd H p (.rng 0 j))) (tCons (tOp (rIxT X.K) (tVar j) (tC (.int 0))) tNil)) :=
    pe_callTy cr_range1 hg2 hm2 boot_range (pa_cons (pe_ix ix_tup (pe_var hj (.inr (.inl vj)) dz dz2) pe_int (by intro _ _; rfl)) pa_nil)
  refine (HX.pe_tupG hr hg hm TB hcode S hite fold).weak fun σ H Q h => ?_
  obtain ⟨ms, ex, r, M, d', M', m, sl, e, q⟩ := h
  unfold mKnown at e
  split at e
  · rename_i qi n ts er1 er2
    split at e
    · rename_i hc
      cases e
      obtain ⟨hn0, hn1, okt⟩ := hc
      obtain ⟨v1, s1, rv1⟩ := sl.at_ i _ er1
      obtain ⟨v2, s2, rv2⟩ := sl.at_ j _ er2
      cases rv1
      cases rv2 with
      | tup sq rr =>
        rename_i ac vs
        cases rr with
        | cons ra rr =>
          cases rr with
          | cons rb rr =>
            cases rr
            cases ra
            rename_i vb
            refine ⟨_, s2, _, _, 0, _, rfl, rfl, SqT.of sq, rfl, n, rfl, fun pr hpr => ?_⟩
            have smr := same_new (o := HO.rng 0 n) hpr
            have m1 := m.same smr
            obtain ⟨ps, eT, tT⟩ := m.tbs T hT
            have neTr : T ≠ pr := fun z => by rw [z, hpr] at eT; cases eT
            refine ⟨⟨ps, smr _ _ eT, tT⟩, n.toNat, fun (k : Nat) => anyEq (.tup [.int (lo2 qi k), .int (hi2 qi k)]) ts, fun (k : Nat) => .int (k : Nat), ?_, fun pins s u I ru => ?_, fun H2 p t2 hp => ?_⟩
            · have := small1000 (n := n.toNat) (by omega)
              omega
            · have eu : u = .ref pr := ru
              subst eu
              have I0 : (upd H pr (.rng 0 n)) T = some (.tbl ps) := smr _ _ eT
              have atT : s.heap.get? T = some { cls := .none, data := .fields ps } := I.hok T _ I0
              have ltT : T < s.heap.objs.size := Heap.lt_size atT
              obtain ⟨ta, tb', tc, eR⟩ := I.hok pr _ (show (upd H pr (.rng 0 n)) pr = some (.rng 0 n) from upd_same)
              refine ⟨fun i v => ∃ t, v = .int (0 + (i : Nat) * 1) t, ⟨_, [], fun i h => IsRangeIter h s.heap.objs.size (0 + (i : Nat) * 1) ((n.toNat : Int) - (i : Nat)) 1, fun A' E' Q' hA hq => wpAny_pyIter_range eR (small_one (by omega) (by omega) (by omega) (by omega)) hq, fun A' hA => Walks.range hA _ 0 1 n.toNat, ?_, fun b hb => absurd hb (by simp)⟩, ?_⟩
              · show Heap.get? _ _ = _
                rw [rangeSize_nat]
                have e1 : (n - 0).toNat = n.toNat := by rw [Int.sub_zero]
                rw [e1]
                exact Heap.get?_push_size _ rfl
              · intro env A' E' i' yv s₂ m₂ hsc hce hgl hA hd hu hP ns mx keep
                obtain ⟨t', eyv⟩ := hP
                have ei : (0 : Int) + (i' : Nat) * 1 = (i' : Nat) := by omega
                rw [ei] at eyv
                subst eyv
                have hk : env.scope.kind = .function := by rw [hsc]; exact S.kind
                have kof : ∀ a, env.kindOf a = scope.names.lookup a := fun a => by rw [← hsc]; rfl
                have neK : ∀ b o, X.base.get? b = some o → b ≠ T := fun b o eb z => by
                  have := (I.bs b o eb).2
                  rw [z, I0] at this
                  cases this
                have KX : X.K.In s₂.heap := fun b o eb => keep b o (neK b o (I.ok.mod.kin b o eb)) (I.kIn b o eb)
                have neT : cStatics ≠ T := by
                  obtain ⟨_, nss, _⟩ := I.nolimit
                  obtain ⟨o', es, ep, got, hdd, _⟩ := nss
                  intro z
                  rw [z, atT] at got
                  cases got
                  cases hdd
                have lim : s₂.heap.NoLimit := I.nolimit.extBut keep neT
                have gns : s₂.heap.Ns env.globals X.mg := by
                  rw [hgl, I.ok.glob]
                  exact (I.mod.glob.keeps I.bk).extBut keep TB.gP
                obtain ⟨ml, _, look⟩ := I.loc
                have cellOf : ∀ {j : Nat} {a : Str} {v : V}, X.N[j]? = some a → σ[j]? = some (some v) → X.env.scope.names.lookup a = some .cell → scope.names.lookup a = some .free → ∃ cc vv, RelV v vv ∧ env.cells.lookup a = some cc ∧ s₂.heap.IsCell cc (some vv) := by
                  intro j a v e1 e2 e3 e4
                  obtain ⟨vv, r1, l⟩ := look j a v e1 e2 (.inr (.inl e3))
                  rcases l with ⟨l, _⟩ | ⟨_, cc, hc, hcell⟩
                  · have l : X.env.scope.names.lookup a = some .local := l
                    rw [e3] at l
                    cases l
                  · obtain ⟨o, ho, hdo⟩ := hcell
                    refine ⟨cc, vv, r1, ?_, o, keep cc o (fun z => ?_) ho, hdo⟩
                    · rw [hce]
                      exact NdefX.clo_has S.free (PySem.mem_of_lookup e4) hc
                    · rw [z, atT] at ho
                      cases ho
                      cases hdo
                obtain ⟨cy, vy, ry, ly, cely⟩ := cellOf hi s1 vi fy
                obtain ⟨cz, vz, rz, lz, celz⟩ := cellOf hj s2 vj fz
                obtain ⟨ty, rfl⟩ := ry
                have evz : vz = .ref ac := rz
                subst evz
                obtain ⟨its, rits, itup, _⟩ := I.tuple (SqT.of (smr _ _ sq))
                cases rits with
                | cons ri rits =>
                  cases rits with
                  | cons rj rits =>
                    cases rits
                    rename_i u0 u1
                    have neac : ac ≠ T := fun z => by
                      obtain ⟨o, ho, hcl, _⟩ := itup
                      rw [z, atT] at ho
                      cases ho
                      cases hcl
                    obtain ⟨oc, hoc, hcl, nn, hdd⟩ := itup
                    have ht2 : s₂.heap.get? ac = some oc := keep ac oc neac hoc
                    obtain ⟨o1, o2⟩ := Bool.and_eq_true_iff.mp okt
                    obtain ⟨as, rd⟩ := Dp.reads I _ _ _ ((rb.ext m (Ext.of smr)).dp o1) rj
                    have rd2 := reads_but (fun o ho => by rw [atT] at ho; cases ho; rfl) keep rd (plain_sh o2)
                    constructor
                    · rw [List.forIn_cons]
                      refine wpAny_bind ?_
                      rw [if_pos rfl]
                      refine wpAny_bind (wpAny_isTrue_Compare1 (wpAny_Call_Name_kw (Calls.Name_function_global hk ((kof g).trans ng) (Calls.loadGlobal_global gns hf ?_) dg)) rfl)
                      refine PySem.W.callWith_K (h₀ := X.base) I.ok.mod.kin F.kp (args_cons (wpAny_Name (wpAny_loadName_free hk ((kof y).trans fy) ly cely ?_ dy2) dy) rfl) rfl rfl
                      refine args_cons (wpAny_Name (wpAny_loadName_local hk ((kof x).trans S.loc) ns mx ?_) dx) rfl
                      refine args_nil ⟨KX, ?_⟩
                      refine call_pair F S' hB k1 k2 hbd KX lim (by have := hr.dp; omega) fun s3 a ta2 tb2 kp at3 => ?_
                      obtain ⟨h3, tk3, e3, k3⟩ := kp
                      have celz3 : s3.heap.IsCell cz (some (.ref ac)) := by
                        obtain ⟨o, ho, hdo⟩ := celz
                        exact ⟨o, by rw [e3]; exact k3 _ _ ho, hdo⟩
                      refine Subscript_ (wpAny_Name (wpAny_loadName_free hk ((kof z).trans fz) lz celz3 ?_ dz2) dz)
                      refine wpAny_Constant_int ?_
                      have ht3 : s3.heap.get? ac = some oc := by rw [e3]; exact k3 _ _ ht2
                      refine subscriptTail_builtinR (x := u1) ⟨oc, ht3, hcl⟩ slot_tuple_getitem.lookup (getItem_tuple (j := 1) ⟨oc, ht3, hcl, nn, hdd⟩ (by decide) (by decide) rfl rfl ⟨rfl, ?_⟩) rfl
                      have rd3 := Reads.keeps (h' := s3.heap) (fun b o eb => by rw [e3]; exact k3 b o eb) rd2
                      obtain ⟨o4, ho4, hc4, n4, hd4⟩ := at3
                      have rp : Reads s3.heap (.ref a) (.tuple [.int (lo2 qi i'), .int (hi2 qi i')]) _ := .tuple ho4 hc4 hd4 (.cons (.int _ _) (.cons (.int _ _) .nil))
                      have shp : SeqAt.shaped (.tuple [.int (lo2 qi i'), .int (hi2 qi i')]) = true := rfl
                      refine SeqAt.in_tuple_data rd3 rp (PyData.plainAll_of_canLay0 _ (SeqAt.canLay_of_shaped o2)) (plain_sh shp) (room_in_shaped shp (by have := hr.un; omega)) ?_
                      refine wpAny_truthy_bool (wpAny_pure ?_)
                      show wpAny _ _ (forIn [] _ _) _ _ _
                      rw [List.forIn_nil]
                      refine wpAny_pure ⟨?_, h3, _, by rw [e3], k3⟩
                      exact anyEq_eq (.tup [.int (lo2 qi i'), .int (hi2 qi i')]) ts
                    · intro _
                      exact wpAny_Name (wpAny_loadName_local hk ((kof x).trans S.loc) ns mx ⟨⟨t', rfl⟩, GxR.keeps_refl _⟩) dx
            · obtain ⟨x2, m2⟩ := tabbed_ext m1 hT t2
              have ri : RVs X.K H2 ms ex (((List.range n.toNat).filter fun (k : Nat) => anyEq (.tup [.int (lo2 qi k), .int (hi2 qi k)]) ts).map fun (k : Nat) => V.int (k : Nat)) (((List.range n.toNat).filter fun (k : Nat) => anyEq (.tup [.int (lo2 qi k), .int (hi2 qi k)]) ts).map fun (k : Nat) => D.int (k : Nat)) := by
                have := RVs.of_ints (K := X.K) (H := H2) (ms := ms) (ex := ex) (((List.range n.toNat).filter fun (k : Nat) => anyEq (.tup [.int (lo2 qi k), .int (hi2 qi k)]) ts).map fun (k : Nat) => (k : Int))
                rw [List.map_map, List.map_map] at this
                exact this
              obtain ⟨x3, m3, r3⟩ := new_tup m2 hp ri
              exact q _ _ (((Ext.of smr).trans x2).trans x3) m3 r3
    · cases e
  · cases e
end
end NL

/-! N21: len(set(ints)), sorted(set(pairs)), xs.pop(i), x, y = (a list made anew), e. -/
namespace NL
open PySem PySem.Spec PyProof.Rows L2
variable {tb : List Addr} {K : PySem.W.Frag} {H H' H1 : Hp} {ms ms' ex ex' : List Addr} {M M' M1 : MM}
variable {X : Cx} {pos p2 p p1 p3 : Pos} {a b : Expr} {f g : FE} {fa : FA}
/-! ### len(set(t)), t unlike ints -/
def mLenSet (f : FE) : FE := fun r M => match f r M with
  | some (.tup xs, M1) => match intsOf xs with
    | some ns => if ns.Nodup ∧ ns.length ≤ 1000 then some (.int ns.length, M1) else none
    | none => none
  | _ => none
theorem setR_len {w : World} {h : Heap} {a : Addr} {ns : List Int} {c : Nat} (R : SetR w h a (fun j => decide (j ∈ ns)) c) (nd : ns.Nodup) : c = ns.length := by
  obtain ⟨o, es, ep, t, _, _, _, _, hn, hk, _, _, hs, _⟩ := R
  have pm : (es.toList.map keyOf).Perm ns := (List.perm_ext_iff_of_nodup hn nd).mpr fun k => by
    rw [← hk k]
    exact decide_eq_true_iff
  have := pm.length_eq
  rw [List.length_map, Array.length_toList] at this
  omega
theorem me_lenSet (hc : X.calm = true) (hg : Gl X "len") (hm : X.mg "len" = none) (hg2 : Gl X "set") (hm2 : X.mg "set" = none) (ha : PE X a (eM tb X.K f)) (na : starEach [a] X.env = (false, eval a X.env) :: starEach [] X.env := by rfl) :
    PE X (.Call (.Name "len" p) [.Call (.Name "set" p2) [a] [] p3] [] pos) (eM tb X.K (mLenSet f)) := by
  refine ⟨fun pins s σ H Q I h => ?_⟩
  obtain ⟨ms, ex, r, M, d', M', m, sl, e, q⟩ := h
  unfold mLenSet at e
  split at e
  · rename_i xs M1 h1
    split at e
    · rename_i ns hns
      split at e
      · rename_i hcond
        cases e
        refine Call_ (ld_blt I hg hm boot_len (PyProof.Rows.callWith_builtin1 (PyProof.Rows.args_cons (Call_ (ld_blt I hg2 hm2 boot_set ?_)) rfl) rfl rfl))
        refine PyProof.Rows.callWith_type1 (PyProof.Rows.args_cons (thn (ha.run pins s σ H (fun v H' => Ext ms H H' ∧ RM tb X.K H' ms ex M' ∧ RV X.K H' ms ex v (.tup xs)) I ⟨ms, ex, r, M, _, M', m, sl, h1, fun H' v x m' r' => ⟨x, m', r'⟩⟩) fun v s1 ⟨x, H1, I1, r1, q1⟩ => PyProof.Rows.args_nil ?_) na) na rfl
        obtain ⟨x1, m1, rv⟩ := q1
        cases rv with
        | tup sq rr =>
          rename_i ad vs0
          have ev : v = .ref ad := r1
          subst ev
          rw [intsOf_eq hns] at rr
          rw [rr.ints] at sq
          obtain ⟨its, rel, ht, hz⟩ := I1.tuple (SqT.of sq)
          refine call_set_tupI ns (I1.ok.hd hc) ht (by simpa using RZ.intsAre_vals rel) (by unfold scanBound; omega) fun h' tk c hS hle hk => PyProof.Rows.args_nil ?_
          have hlen := setR_len hS hcond.1
          obtain ⟨o, es, ep, t, ho, hex, hd, _, _, _, _, hf, hn, _⟩ := hS
          have I2 : Inv X pins σ H1 { s1 with heap := h', toks := tk } := I1.kept hk
          refine call_len_set ho hex hd hf (by omega) ⟨.int ns.length, H1, I2.tok _, ⟨_, by rw [hn, hlen]⟩, q H1 _ x1 m1 (.int _)⟩
      · cases e
    · cases e
  · cases e
/-! ### xs.pop(i) -/
def mPop (fo fi : FE) : FE := fun r M => match fo r M with
  | some (.mu n, M1) => match M1[n]? with
    | some (.lst _) => match fi r M1 with
      | some (.int i, M2) => match M2[n]? with
        | some (.lst xs) => if 0 ≤ i ∧ i < xs.length ∧ xs.length ≤ 1000 then match xs[i.toNat]? with
            | some d => some (d, M2.set n (.lst (xs.eraseIdx i.toNat)))
            | none => none
          else none
        | _ => none
      | _ => none
    | _ => none
  | _ => none
theorem RVs.erase : ∀ {vs : List V} {ds : List D} (n : Nat), RVs K H ms ex vs ds → RVs K H ms ex (vs.eraseIdx n) (ds.eraseIdx n)
  | _, _, _, .nil => .nil
  | _, _, 0, .cons _ b => b
  | _, _, n + 1, .cons a b => .cons a (RVs.erase n b)
theorem mt_pop {fo fi : FE} {σ : L2.St} {Q : VK} (h : eM tb K (mPop fo fi) σ H Q) : tBM K "list" rPopAt (eM tb K fo) (tCons (eM tb K fi) tNil) σ H Q := by
  obtain ⟨ms, ex, r, M, d', M', m, s, e, q⟩ := h
  unfold mPop at e
  split at e
  · rename_i n M1 h1
    split at e
    · rename_i ys h0
      split at e
      · rename_i i M2 h2
        split at e
        · rename_i xs h3
          split at e
          · rename_i hb
            split at e
            · rename_i d h4
              cases e
              refine eM.use m s h1 fun H1 v1 x1 m1 s1 r1 => ?_
              cases r1 with
              | mu e0 =>
                rename_i ad
                constructor
                · cases m1.at_ _ _ _ e0 h0 with
                  | lst sq _ => exact .inl ⟨rfl, _, SqL.of sq⟩
                refine eM.use m1 s1 h2 fun H2 v2 x2 m2 s2 r2 => ?_
                cases r2
                have raw := m2.at_ _ _ _ e0 h3
                cases raw with
                | lst sq rr =>
                  rename_i vs
                  have hl := rr.length
                  obtain ⟨w, hw, rw'⟩ := rr.get h4
                  have hn : n < M2.length := (List.getElem?_eq_some_iff.mp h3).1
                  obtain ⟨x3, m3⟩ := m2.store (d := .lst (xs.eraseIdx i.toNat)) (o := .lst (vs.eraseIdx i.toNat)) e0 hn (fun _ z => by cases z) (.inl ⟨_, sq⟩) fun x => .lst upd_same ((rr.erase _).ext m2 x)
                  exact ⟨_, vs, i, i.toNat, w, rfl, rfl, sq, by omega, by omega, seqIndex_of hb.1 (by omega), hw, q _ _ ((x1.trans x2).trans x3) m3 (rw'.ext m2 x3)⟩
            · cases e
          · cases e
        · cases e
      · cases e
    · cases e
  · cases e
theorem me_pop {o i : Expr} {pa pc : Pos} {fo fi : FE} (ho : PE X o (eM tb X.K fo)) (hi : PE X i (eM tb X.K fi)) (hbase : attributeBase o "pop" X.env (eval o X.env) = eval o X.env := by rfl)
    (hfew : ((backTo pc (starEach [i] X.env)).all (fun x => !x.1) && (backToKw pc (keywordEach [] X.env)).all (fun x => x.1.isSome) && decide (([i] : List Expr).length + ([] : List Keyword).length + (if ([] : List Keyword).isEmpty then 0 else 1) < 30)) = true := by rfl)
    (hline : (pa.endLine == pc.line) = true := by rfl) (hst : starEach [i] X.env = (false, eval i X.env) :: starEach [] X.env := by rfl) :
    PE X (.Call (.Attribute o "pop" pa) [i] [] pc) (eM tb X.K (mPop fo fi)) :=
  (pe_bm PySem.F.plainAttrs_list PySem.F.slot_list_pop PySem.F.type_list_pop mt_popAt ho (pa_cons hi pa_nil hst) hbase hfew hline hst rfl).weak fun _ _ _ h => mt_pop h
/-! ### x, y = (a list made anew), e -/
def mNewP (i j : Nat) (f g : FE) (k : FS) : FS := fun r M => match f r M with
  | some (d, M1) => match g r (M1 ++ [d]) with
    | some (u, M2) => match k ((r.set i (some (.mu M1.length))).set j (some u)) M2 with
      | some (.rt v, M3) => match M3[M1.length]? with
        | some o => if (NL.clean M1.length o && (M3.take M1.length).all (NL.clean M1.length)) = true then some (.rt (NL.told M1.length o v), M3.take M1.length) else none
        | none => none
      | _ => none
    | none => none
  | none => none
theorem mt_newP {i j : Nat} {k : FS} {D : Ends} {σ : L2.St} (h : sM tb K (mNewP i j f g k) D σ H) : tSeq (tPar i j (tCons (nM tb K f) (tCons (eM tb K g) tNil))) (sM tb K k) D σ H := by
  obtain ⟨ms, ex, r, M, o, M', m, s, e, q⟩ := h
  unfold mNewP at e
  split at e
  · rename_i d M1 h1
    split at e
    · rename_i u M2 h2
      split at e
      · rename_i v M3 h3
        split at e
        · rename_i o h4
          split at e
          · rename_i hc
            cases e
            obtain ⟨c1, c2⟩ := Bool.and_eq_true_iff.mp hc
            refine ⟨ms, ex, r, M, d, M1, m, s, h1, fun H1 p x1 hp m1 => ?_⟩
            have hlen : ms.length = M1.length := by
              have := m1.len
              simp at this
              exact this
            obtain ⟨np0, nx⟩ := fresh_ms m hp
            have s1 : Sl K H1 (ms ++ [p]) ex σ r := ⟨s.len, fun j d' ej => by
              obtain ⟨w, g1, g2⟩ := s.at_ j d' ej
              exact ⟨w, g1, push_rv m hp x1 g2⟩⟩
            refine eM.use m1 s1 h2 fun H2 v2 x2 m2 s2 r2 => ?_
            refine ⟨_, _, rfl, ms ++ [p], ex, (r.set i (some (.mu M1.length))).set j (some u), M2, .rt v, M3, m2, ?_, h3, fun H3 x3 m3 w rw' => ?_⟩
            · exact (s2.set (.mu (by rw [← hlen, List.getElem?_append_right (Nat.le_refl _)]; simp))).set r2
            · rw [← hlen] at c1 c2 h4 q
              have m4 := m3.pop c2
              have raw := m3.at_ ms.length p o (by rw [List.getElem?_append_right (Nat.le_refl _)]; simp) h4
              have ho := raw.still np0 nx c1
              have out : ∀ b u, H b = some u → b ∉ ms → b ∉ ms ++ [p] := fun b u eb nb z => by
                rcases List.mem_append.mp z with z | z
                · exact nb z
                · have : b = p := by simpa using z
                  rw [this, hp] at eb
                  cases eb
              have x : Ext ms H H3 := ⟨fun b u eb nb t => x3 b u (x2 b u (x1 b u eb nb t) (out b u eb nb) t) (out b u eb nb) t, fun b ps eb nb => by
                obtain ⟨ps', y⟩ := x1.tab b ps eb nb
                obtain ⟨ps2, y2⟩ := x2.tab b ps' y (out b _ eb nb)
                exact x3.tab b ps2 y2 (out b _ eb nb)⟩
              exact q H3 x m4 w (RV.told ho rw')
          · cases e
        · cases e
      · cases e
    · cases e
  · cases e
theorem mss_newP {i j : Nat} {x y : Str} {px py pt : Pos} {kt k2 pt2} {sts : List Stmt} {k : FS} (hc : X.calm = true) (hN : X.N.Nodup) (hi : X.N[i]? = some x) (hj : X.N[j]? = some y) (hij : i ≠ j)
    (hx : X.env.scope.names.lookup x = some .local) (hy : X.env.scope.names.lookup y = some .local) (ha : PE X a (nM tb X.K f)) (hb : PE X b (eM tb X.K g)) (hk : PSs X sts (sM tb X.K k))
    (hw : swappedStores [.Tuple [.Name x px, .Name y py] kt pt] (.Tuple [a, b] k2 pt2) X.env = Pure.pure (some [x, y]))
    (hs : swapsWithSole [.Tuple [.Name x px, .Name y py] kt pt] (.Tuple [a, b] k2 pt2) pos.line X.env = Pure.pure false := by rfl)
    (h1 : starEach [a, b] X.env = (false, eval a X.env) :: starEach [b] X.env := by rfl) (h2 : starEach [b] X.env = (false, eval b X.env) :: starEach [] X.env := by rfl) :
    PSs X (.Assign [.Tuple [.Name x px, .Name y py] kt pt] (.Tuple [a, b] k2 pt2) pos :: sts) (sM tb X.K (mNewP i j f g k)) :=
  (pss_cons (ps_par hc hN hi hj hij hx hy (pa_cons ha (pa_cons hb pa_nil h2) h1) hw hs) hk).weak fun _ _ _ h => mt_newP h
end NL

/-! N22: sorted(set(t)), t a tuple of pairs of small ints. -/
namespace NL
open PySem PySem.Spec PyProof.Rows L2
variable {tb : List Addr} {K : PySem.W.Frag} {H H' H1 : Hp} {ms ms' ex ex' : List Addr} {M M' M1 : MM}
/-! ### set(t) -/
/-- a set made anew -/
abbrev set0 (w : World) : Obj := { cls := .type "set", dict := none, data := .set #[] 0 (.fresh 0 0 (!w.params.followText "set-order")) }
section
variable {P : Program} {w : World} {A : Around} {E : Value → Shared → Prop} {s : Shared}
set_option maxHeartbeats 3200000 in
theorem call_setTT {l : Addr} {its : Array Value} (ks : List (Addr × List Int)) {Q : Value → Shared → Prop} (hA : A.handled = none) (ht : s.heap.IsTuple l its) (hit : its.toList = ks.map fun p => Value.ref p.1)
    (hk : ∀ p ∈ ks, IsT P w s.heap p.2 p.1) (few : ks.length < 64) (hu : A.units + 3 < cLine)
    (fin : ∀ (h' : Heap) (tk : Nat) L es ep t, SetTR P w h' s.heap.objs.size L es ep t → Got ks ks.length L → (∀ b o, s.heap.get? b = some o → h'.get? b = some o) → Q (.ref s.heap.objs.size) { s with heap := h', toks := tk }) :
    wpAny (model P w) A (call (.type "set") [.ref l]) Q E s := by
  have size : its.size = ks.length := by
    have := congrArg List.length hit
    simpa using this
  have cs := F.called_set
  obtain ⟨c, tl, hmro⟩ := cs.mro
  have hmade := cs.made
  have hsub := cs.sub
  refine wpAny_call (codeAny_of_tree ?_)
  show wpAny _ _ (callAny (.type "set") _) _ _ _
  refine wpAny_pure ⟨Code.quiet_builtin _ (by decide +kernel), codeAny_builtin F.entry_type_call ?_⟩
  rw [Around.under_plain (weight_type_call_type "set" [.ref l] []) rfl]
  have a1 := cs.notType; have a2 := cs.canCreate; have a3 := F.typeCall_set_1 (.ref l)
  repeat any_goals (first | assumption | wp_step)
  refine codeAny_mono (code_set_led1 (.ref l) (E := E) (Q₁ := fun u s₁ => u = .ref s.heap.objs.size ∧ s₁ = { s with heap := s.heap.push (set0 w) }) ⟨rfl, rfl⟩) fun r s₁ hr => ?_
  cases r with
  | error e => exact hr
  | ok fl =>
    cases fl with
    | ret u =>
      obtain ⟨rfl, rfl⟩ := hr
      have atS : (s.heap.push (set0 w)).get? s.heap.objs.size = some (set0 w) := Heap.get?_push_size _ rfl
      have tyS : Shared.TypeIs { s with heap := s.heap.push (set0 w) } (.ref s.heap.objs.size) "set" := ⟨_, atS, rfl⟩
      have b1 := cs.init.lookup; have b2 := cs.init.bind (.ref s.heap.objs.size)
      repeat any_goals (first | assumption | wp_step)
      refine codeAny_mono (codeAny_call_builtin (R := wants (fun r s₂ => r = .none ∧ ∃ h' tk L es ep t, s₂ = { s with heap := h', toks := tk } ∧ SetTR P w h' s.heap.objs.size L es ep t ∧ Got ks ks.length L ∧ ∀ b o, s.heap.get? b = some o → h'.get? b = some o) E) cs.init.plain F.entry_set_init (check_set_init_1 tyS ?_)) fun r₂ s₂ hr₂ => ?_
      · obtain ⟨⟨ocls, od, odata, osl⟩, hol, hcl, nl, hdl⟩ := ht
        have hcl : ocls = .type "tuple" := hcl
        have hdl : odata = .seq its nl := hdl
        subst hcl hdl
        have atL : (s.heap.push (set0 w)).get? l = some { cls := .type "tuple", dict := od, data := .seq its nl, slots := osl } := Heap.get?_push_of_some _ hol
        have c1 := F.sub_tuple_set; have c2 := F.sub_tuple_frozenset
        have c3 : (Value.type "tuple" == Value.type "dict") = false := by decide
        have tupL : (s.heap.push (set0 w)).IsTuple l its := ⟨_, atL, rfl, nl, rfl⟩
        unfold Builtin.«set.__init__» noKeywords Builtin.Frozenset.updateFrom
        generalize hPI : pyIter = PI
        wp_walk
        subst hPI
        refine wpAny_pyIter_tuple tupL (wpAny_bind (wpAny_runValue ?_))
        have ltL : l < s.heap.objs.size := Heap.lt_size hol
        have hA3 : A.in1.in1.in1.handled = none := by simp [hA]
        have sz1 : (s.heap.push (set0 w)).objs.size = s.heap.objs.size + 1 := Heap.size_push ..
        have nI : l ≠ (s.heap.push (set0 w)).objs.size := by rw [sz1]; exact Nat.ne_of_lt (Nat.lt_succ_of_lt ltL)
        have nS : s.heap.objs.size ∉ [(s.heap.push (set0 w)).objs.size, l] := by
          rw [sz1]
          intro z
          rcases List.mem_cons.mp z with z | z
          · exact Nat.ne_of_lt (Nat.lt_succ_self _) z
          · exact Nat.ne_of_gt ltL (List.mem_singleton.mp z)
        have val : ∀ (i : Nat) (v : Value), its[i]? = some v → ∃ p, ks[i]? = some p ∧ v = .ref p.1 := fun i v hv => by
          have z : its.toList[i]? = some v := by rw [Array.getElem?_toList]; exact hv
          rw [hit, List.getElem?_map, Option.map_eq_some_iff] at z
          obtain ⟨p, z1, z2⟩ := z
          exact ⟨p, z1, z2.symm⟩
        have free : ∀ b, s.heap.objs.size ≤ b → s.heap.get? b = none := fun b hb => by
          cases z : s.heap.get? b with
          | none => rfl
          | some o => exact absurd (Nat.lt_of_lt_of_le (Heap.lt_size z) hb) (Nat.lt_irrefl _)
        refine set_update_tups ((Walks.tuple hA3 _ l nI its).toS) s.heap.objs.size nS ks size few val s.heap hk (free _ (Nat.le_refl _)) (fun b hb => free b (by rw [List.mem_singleton.mp hb, sz1]; exact Nat.le_succ _)) hu (its.size - 0) 0 _ (by omega) (Nat.zero_le _)
          ⟨⟨_, Heap.get?_push_size _ rfl, rfl, rfl⟩, (tupL.push _)⟩ (fun b o e => Heap.get?_push_of_some _ (Heap.get?_push_of_some _ e)) ?start ?stop
        case start =>
          have z : ((s.heap.push (set0 w)).push { cls := .type "tuple_iterator", data := .fields #[.ref l, .int 0 0] }).get? s.heap.objs.size = some (set0 w) := Heap.get?_push_of_some _ atS
          exact ⟨[], #[], 0, _, setTR_fresh z, Got.zero ks⟩
        case stop =>
          intro s' L es ep t hm R g keep
          obtain ⟨h', g2, d', tk', os'⟩ := s'
          obtain rfl : g2 = s.gens := hm.gens
          obtain rfl : d' = s.drawn := hm.drawn
          obtain rfl : os' = s.os := hm.os
          show wpAny _ _ _ _ _ _
          refine wpAny_pure ?_
          show wpAny _ _ (ret Value.none) _ _ _
          rw [size] at g
          exact wpAny_pure ⟨rfl, h', tk', L, es, ep, t, rfl, R, g, keep⟩
      · cases r₂ with
        | error e => exact hr₂
        | ok fl₂ =>
          cases fl₂ with
          | ret r =>
            obtain ⟨rfl, h', tk, L, es, ep, t, rfl, R, g, keep⟩ := hr₂
            repeat any_goals (first | assumption | wp_step)
            exact fin _ _ _ _ _ _ R g keep
          | _ => exact hr₂.elim
    | _ => exact hr.elim
end
section
variable {X : Cx} {pos p2 p p1 p3 : Pos} {a b : Expr} {f g : FE} {fa : FA}
def rSetTT (K : PySem.W.Frag) (P : Program) (w : World) : List V → Hp → VK → Prop := fun xs H Q => ∃ (l : Addr) (ks : List (Addr × List Int)), xs = [V.ref l] ∧ SqT K H l (ks.map fun p => V.ref p.1) ∧ (∀ p ∈ ks, SqT K H p.1 (p.2.map V.int)) ∧ ks.length < 64 ∧
  ∀ a L, H a = none → (∀ p ∈ L, p ∈ ks) → (∀ p ∈ ks, p.2 ∈ L.map (·.2)) → Q (.ref a) (upd H a (SetTO P w a L))
theorem cr_setTT (hc : X.calm = true) (hu : X.A.units + 64 < cLine) : CallR X (.type "set") (rSetTT X.K X.prog X.w) := by
  rintro pins s σ H xs us Q I r ⟨l, ks, rfl, hl, hk, hf, q⟩
  rw [Vals.ref1 r]
  obtain ⟨its, rv, pl, hz⟩ := I.tuple hl
  have hn : H s.heap.objs.size = none := I.hok.fresh (Nat.le_refl _)
  refine call_setTT (P := X.prog) (w := X.w) ks (I.ok.hd hc) pl (by simpa using refs_of_vals rv) (fun p hp => I.isT (hk p hp)) hf (by omega) fun h' tk L es ep t R g k => ?_
  exact ⟨.ref s.heap.objs.size, upd H s.heap.objs.size (SetTO X.prog X.w s.heap.objs.size L), I.laid (t' := tk) k (Nat.le_refl _) (setTO_new R.t0), rfl, q _ L hn (fun p hp => List.mem_of_mem_take (g.sub p hp)) fun p hp => g.all p (by rw [List.take_length]; exact hp)⟩
/-! ### pairs in order, each once -/
def ltP (p q : Int × Int) : Prop := p.1 < q.1 ∨ p.1 = q.1 ∧ p.2 < q.2
instance (p q : Int × Int) : Decidable (ltP p q) := by unfold ltP; infer_instance
def insP (p : Int × Int) : List (Int × Int) → List (Int × Int)
  | [] => [p]
  | q :: qs => if p = q then q :: qs else if ltP p q then p :: q :: qs else q :: insP p qs
def sortP : List (Int × Int) → List (Int × Int)
  | [] => []
  | p :: ps => insP p (sortP ps)
theorem mem_insP {p x : Int × Int} : ∀ {qs : List (Int × Int)}, x ∈ insP p qs ↔ x = p ∨ x ∈ qs
  | [] => by simp [insP]
  | q :: qs => by
    unfold insP
    by_cases h : p = q
    · rw [if_pos h]
      subst h
      simp
    · rw [if_neg h]
      by_cases h2 : ltP p q
      · rw [if_pos h2]
        simp
      · rw [if_neg h2, List.mem_cons, mem_insP, List.mem_cons]
        constructor
        · rintro (z | z | z)
          · exact .inr (.inl z)
          · exact .inl z
          · exact .inr (.inr z)
        · rintro (z | z | z)
          · exact .inr (.inl z)
          · exact .inl z
          · exact .inr (.inr z)
theorem mem_sortP {x : Int × Int} : ∀ {ps : List (Int × Int)}, x ∈ sortP ps ↔ x ∈ ps
  | [] => Iff.rfl
  | p :: ps => by
    show x ∈ insP p (sortP ps) ↔ _
    rw [mem_insP, mem_sortP, List.mem_cons]
theorem ltP_tri {p q : Int × Int} (h : p ≠ q) (h2 : ¬ ltP p q) : ltP q p := by
  obtain ⟨a, b⟩ := p
  obtain ⟨c, d⟩ := q
  unfold ltP at *
  simp only [ne_eq, Prod.mk.injEq] at h
  simp only at h2 ⊢
  omega
theorem ltP_trans {p q r : Int × Int} (h : ltP p q) (h2 : ltP q r) : ltP p r := by
  unfold ltP at *
  omega
theorem sorted_insP {p : Int × Int} : ∀ {qs : List (Int × Int)}, qs.Pairwise ltP → (insP p qs).Pairwise ltP
  | [], _ => List.pairwise_singleton _ _
  | q :: qs, h => by
    unfold insP
    obtain ⟨h1, h2⟩ := List.pairwise_cons.mp h
    by_cases e : p = q
    · rw [if_pos e]
      exact h
    · rw [if_neg e]
      by_cases e2 : ltP p q
      · rw [if_pos e2]
        refine List.pairwise_cons.mpr ⟨fun x hx => ?_, h⟩
        rcases List.mem_cons.mp hx with z | z
        · rw [z]; exact e2
        · exact ltP_trans e2 (h1 x z)
      · rw [if_neg e2]
        refine List.pairwise_cons.mpr ⟨fun x hx => ?_, sorted_insP h2⟩
        rcases mem_insP.mp hx with z | z
        · rw [z]; exact ltP_tri e e2
        · exact h1 x z
theorem sorted_sortP : ∀ (ps : List (Int × Int)), (sortP ps).Pairwise ltP
  | [] => .nil
  | p :: ps => sorted_insP (sorted_sortP ps)
theorem ltP_irr {p : Int × Int} (h : ltP p p) : False := by
  unfold ltP at h
  omega
/-- one order, one list -/
theorem sorted_one : ∀ {xs ys : List (Int × Int)}, xs.Pairwise ltP → ys.Pairwise ltP → (∀ x, x ∈ xs ↔ x ∈ ys) → xs = ys
  | [], [], _, _, _ => rfl
  | [], y :: ys, _, _, h => absurd ((h y).mpr List.mem_cons_self) (by simp)
  | x :: xs, [], _, _, h => absurd ((h x).mp List.mem_cons_self) (by simp)
  | x :: xs, y :: ys, hx, hy, h => by
    obtain ⟨x1, x2⟩ := List.pairwise_cons.mp hx
    obtain ⟨y1, y2⟩ := List.pairwise_cons.mp hy
    have e : x = y := by
      rcases List.mem_cons.mp ((h x).mp List.mem_cons_self) with z | z
      · exact z
      · rcases List.mem_cons.mp ((h y).mpr List.mem_cons_self) with z2 | z2
        · exact z2.symm
        · exact (ltP_irr (ltP_trans (x1 y z2) (y1 x z))).elim
    subst e
    rw [sorted_one x2 y2 fun z => ?_]
    constructor
    · intro hz
      rcases List.mem_cons.mp ((h z).mp (List.mem_cons_of_mem _ hz)) with w | w
      · rw [w] at hz
        exact (ltP_irr (x1 x hz)).elim
      · exact w
    · intro hz
      rcases List.mem_cons.mp ((h z).mpr (List.mem_cons_of_mem _ hz)) with w | w
      · rw [w] at hz
        exact (ltP_irr (y1 x hz)).elim
      · exact w
/-! ### sorted(set(t)) -/
def pairsOf : List D → Option (List (Int × Int))
  | [] => some []
  | .tup [.int i, .int j] :: ds => match pairsOf ds with
    | some ps => some ((i, j) :: ps)
    | none => none
  | _ => none
def pD (p : Int × Int) : D := .tup [.int p.1, .int p.2]
def mSortSet (f : FE) : FE := fun r M => match f r M with
  | some (.tup xs, M1) => match pairsOf xs with
    | some ps => if ps.length < 64 ∧ ∀ p ∈ ps, (0 ≤ p.1 ∧ p.1 < 64) ∧ 0 ≤ p.2 ∧ p.2 < 64 then some (.lst ((sortP ps).map pD), M1) else none
    | none => none
  | _ => none
theorem pairs_ks : ∀ {ds : List D} {vs : List V} {ps : List (Int × Int)}, RVs K H ms ex vs ds → pairsOf ds = some ps →
    ∃ ks : List (Addr × List Int), vs = ks.map (fun p => V.ref p.1) ∧ ks.map (·.2) = ps.map (fun p => [p.1, p.2]) ∧ ∀ p ∈ ks, H p.1 = some (.tup (p.2.map V.int))
  | [], _, _, h, e => by
    cases h
    cases e
    exact ⟨[], rfl, rfl, fun _ z => absurd z (by simp)⟩
  | d :: ds, _, ps, h, e => by
    unfold pairsOf at e
    split at e
    · rename_i e1
      cases e1
    · rename_i i j ds' e1
      obtain ⟨rfl, rfl⟩ := List.cons.inj e1
      split at e
      · rename_i ps' e2
        cases e
        cases h with
        | cons a b =>
          obtain ⟨ks, h1, h2, h3⟩ := pairs_ks b e2
          cases a with
          | tup sq rr =>
            rename_i ad xs
            have := RVs.ints (ns := [i, j]) rr
            subst this
            refine ⟨(ad, [i, j]) :: ks, by rw [h1]; rfl, by rw [List.map_cons, List.map_cons, h2], fun p hp => ?_⟩
            rcases List.mem_cons.mp hp with z | z
            · rw [z]; exact sq
            · exact h3 p z
      · cases e
    · cases e
theorem ks_rvs : ∀ {ks : List (Addr × List Int)} {ps : List (Int × Int)}, ks.map (·.2) = ps.map (fun p => [p.1, p.2]) → (∀ p ∈ ks, H p.1 = some (.tup (p.2.map V.int))) → RVs K H ms ex (ks.map fun p => V.ref p.1) (ps.map pD)
  | [], [], _, _ => .nil
  | [], _ :: _, h, _ => by simp at h
  | _ :: _, [], h, _ => by simp at h
  | k :: ks, p :: ps, h, h2 => by
    obtain ⟨e1, e2⟩ := List.cons.inj (show k.2 :: ks.map (·.2) = [p.1, p.2] :: ps.map _ from h)
    refine .cons ?_ (ks_rvs e2 fun q hq => h2 q (List.mem_cons_of_mem _ hq))
    have := h2 k List.mem_cons_self
    rw [e1] at this
    exact .tup this (.cons (.int _) (.cons (.int _) .nil))
theorem me_sortSet (hc : X.calm = true) (hu : X.A.units + 64 < cLine) (hg : Gl X "sorted") (hm : X.mg "sorted" = none) (hg2 : Gl X "set") (hm2 : X.mg "set" = none) (ha : PE X a (eM tb X.K f)) (na : starEach [a] X.env = (false, eval a X.env) :: starEach [] X.env := by rfl) :
    PE X (.Call (.Name "sorted" p) [.Call (.Name "set" p2) [a] [] p3] [] pos) (eM tb X.K (mSortSet f)) :=
  (pe_callB (cr_sortedT hc) hg hm boot_sorted (pa_cons (pe_callTy (cr_setTT hc hu) hg2 hm2 boot_set (pa_cons ha pa_nil na) (by decide) (by decide) na rfl) pa_nil rfl) (by decide) (by decide) rfl rfl).weak fun σ H Q h => by
    obtain ⟨ms, ex, r, M, d', M', m, s, e, q⟩ := h
    unfold mSortSet at e
    split at e
    · rename_i xs M1 h1
      split at e
      · rename_i ps hps
        split at e
        · rename_i hb
          cases e
          obtain ⟨few, bd⟩ := hb
          refine eM.use m s h1 fun H1 v1 x1 m1 s1 r1 => ?_
          cases r1 with
          | tup sq rr =>
            obtain ⟨ks, e1, e2, e3⟩ := pairs_ks rr hps
            subst e1
            have hlen : ks.length = ps.length := by
              have := congrArg List.length e2
              simpa using this
            refine ⟨_, ks, rfl, SqT.of sq, fun p hp => SqT.of (e3 p hp), by omega, fun a L ha sub all => ?_⟩
            have sm := same_new (o := SetTO X.prog X.w a L) ha
            have m2 := m1.same sm
            have inP : ∀ p ∈ L, ∃ c ∈ ps, p.2 = [c.1, c.2] := fun p hp => by
              have : p.2 ∈ ks.map (·.2) := List.mem_map.mpr ⟨p, sub p hp, rfl⟩
              rw [e2] at this
              obtain ⟨c, hc1, hc2⟩ := List.mem_map.mp this
              exact ⟨c, hc1, hc2.symm⟩
            refine ⟨a, L, 2, 64, rfl, upd_same, fun p hp => SqT.of (sm _ _ (e3 p (sub p hp))), by decide, fun p hp => ?_, fun L' p' pm nd few' pw hp' => ?_⟩
            · obtain ⟨c, hc1, hc2⟩ := inP p hp
              rw [hc2]
              refine ⟨rfl, fun z hz => ?_⟩
              rcases List.mem_cons.mp hz with z1 | z1
              · rw [z1]; exact (bd c hc1).1
              · rw [List.mem_singleton.mp z1]; exact (bd c hc1).2
            · have e4 : L'.map (·.2) = (sortP ps).map fun p => [p.1, p.2] := by
                have mem' : ∀ p ∈ L', ∃ c ∈ ps, p.2 = [c.1, c.2] := fun p hp => inP p (pm.mem_iff.mp hp)
                let toP : List Int → Int × Int := fun l => (l.getD 0 0, l.getD 1 0)
                have back : L'.map (·.2) = ((L'.map (·.2)).map toP).map fun p => [p.1, p.2] := by
                  rw [List.map_map, List.map_map]
                  refine List.map_congr_left fun p hp => ?_
                  obtain ⟨c, _, hc2⟩ := mem' p hp
                  show p.2 = [(p.2).getD 0 0, (p.2).getD 1 0]
                  rw [hc2]
                  rfl
                have so : ((L'.map (·.2)).map toP).Pairwise ltP := by
                  rw [List.map_map]
                  refine List.pairwise_map.mpr ?_
                  have both := pw.and (List.pairwise_map.mp nd)
                  refine both.imp_of_mem fun {x y} hx hy hxy => ?_
                  obtain ⟨c, hc1, hc2⟩ := mem' x hx
                  obtain ⟨d, hd1, hd2⟩ := mem' y hy
                  obtain ⟨g1, g2⟩ := hxy
                  show ltP ((x.2).getD 0 0, (x.2).getD 1 0) ((y.2).getD 0 0, (y.2).getD 1 0)
                  rw [hc2, hd2] at g1 g2 ⊢
                  exact pair_lt g1 g2 (bd c hc1).1 (bd c hc1).2 (bd d hd1).1 (bd d hd1).2
                rw [back]
                congr 1
                refine sorted_one so (sorted_sortP ps) fun z => ?_
                rw [mem_sortP]
                constructor
                · intro hz
                  obtain ⟨l, hl, rfl⟩ := List.mem_map.mp hz
                  obtain ⟨p, hp, rfl⟩ := List.mem_map.mp hl
                  obtain ⟨c, hc1, hc2⟩ := mem' p hp
                  show ((p.2).getD 0 0, (p.2).getD 1 0) ∈ ps
                  rw [hc2]
                  exact hc1
                · intro hz
                  have : [z.1, z.2] ∈ ks.map (·.2) := by
                    rw [e2]
                    exact List.mem_map.mpr ⟨z, hz, rfl⟩
                  obtain ⟨p, hp, hp2⟩ := List.mem_map.mp this
                  have := all p hp
                  obtain ⟨p3, hp3, hp4⟩ := List.mem_map.mp this
                  refine List.mem_map.mpr ⟨p3.2, List.mem_map.mpr ⟨p3, pm.mem_iff.mpr hp3, rfl⟩, ?_⟩
                  show ((p3.2).getD 0 0, (p3.2).getD 1 0) = z
                  rw [hp4, hp2]
                  rfl
              have r3 : RVs X.K (upd H1 a (SetTO X.prog X.w a L)) ms ex (L'.map fun q => V.ref q.1) ((sortP ps).map pD) := ks_rvs e4 fun p hp => sm _ _ (e3 p (sub p (pm.mem_iff.mp hp)))
              obtain ⟨x4, m4, r4⟩ := new_lst m2 hp' r3
              exact q _ _ ((x1.trans (Ext.of sm)).trans x4) m4 r4
        · cases e
      · cases e
    · cases e
end
end NL

/-! N23: a def whose code object is known. -/
namespace NL
open PySem PySem.Spec PyProof.Rows L2
variable {tb : List Addr} {K : PySem.W.Frag} {P : Program} {w : World} {mg : Str → Option Value} {base : Heap} {fs : FS}
theorem units0 {k : Nat} {A : Around} (r : Room k A) : A.units < cLine := by
  have := r.un
  omega
theorem units64 {k : Nat} {A : Around} (r : Room k A) : A.units + 64 < cLine := by
  have := r.un
  omega
theorem m_fnC {x qual : Str} {st : Stmt} {q c : Addr} {fd : FuncData} {N ps : List Str} {k : Nat}
    (F : ∃ (oc : Value) (od : Option Addr) (kV doc pm : Value) (an : Option Addr) (ct : Value) (osl : Array (Option Value)), fd = PySem.W.fnOf x qual (defArgs st) (defBody st) (defScope st) .none kV doc pm an (.ref c) ct ∧ K.lookup q = some ⟨oc, od, .func fd, osl⟩ ∧ PySem.W.codeIn K (.ref c) qual = true)
    (S : FnScope N ps (defScope st)) (hb : ∀ (A : Around) (outer : List Env) (s : Shared) (H : Hp) (E : XK), Room k (A.deeper (envOfC qual (defScope st) s.heap.objs.size q (.ref c))) →
      PSs (cxOf CX0 P w K mg base N qual (defScope st) q (.ref c) A outer s H E).nox (defBody st) (sM tb K fs)) : FnOk P w K mg base CX0 (k + 1) q fd ps (spM tb K ps.length (mFun N.length fs)) := by
  obtain ⟨oc, od, kV, doc, pm, an, ct, osl, rfl, lk, hcd⟩ := F
  refine fn_of lk hcd S (fun vs H Q E h => ?_) fun A outer s H vs Q E hr h => ⟨sM tb K fs, (hb A outer s H E hr).nox, ?_⟩
  · obtain ⟨ms, ex, M, ds, d, M', m, r, hl, _⟩ := h
    rw [r.length, hl]
  · obtain ⟨ms, ex, M, ds, d, M', m, r, hl, e, hq⟩ := h
    unfold mFun at e
    split at e
    · rename_i d1 M1 h1
      cases e
      exact sM.use m (start_sl r) h1 fun H1 x1 m1 v rv => hq H1 v x1 m1 rv
    · rename_i r1 M1 h1
      cases e
      exact sM.use m (start_sl r) h1 fun H1 x1 m1 σ' _ => hq H1 .non x1 m1 .non
    · cases e
theorem genS_mk {qual : Str} {sc scope : Scope} {n : Nat} {f : Addr} {cd : Value} {x : Str} (h1 : scope.kind = .function) (h2 : scope.isCoroutine = false) (h3 : ∀ y ∈ scope.names, y.2 ≠ .cell) (h4 : scope.names.lookup (".0" : Str) = some NameKind.local)
    (h5 : scope.names.lookup x = some .local) (h6 : ∀ y ∈ scope.names, y.2 = .free → sc.names.lookup y.1 = some .cell) : GxR.GenS (envOfC qual sc n f cd) scope x :=
  ⟨h1, h2, h3, h4, h5, fun y hy e => cell_has (h6 y hy e)⟩
end NL

/-! N24: a dict by tuples, locked while its keys are gone over. -/
namespace NL
open PySem PySem.Spec PyProof.Rows L2
variable {tb : List Addr} {K : PySem.W.Frag} {H H' H1 H2 : Hp} {ms ms' ex ex' : List Addr} {M M' M1 : MM} {d : Addr}
/-- the dict at d is locked, or let go; all else stands -/
structure Like (ms ex : List Addr) (d : Addr) (H H' : Hp) : Prop where
  nm : d ∉ ms
  nx : d ∉ ex
  at_ : (∃ kvs o, H d = some (.dT kvs) ∧ H' d = some (.frz o (.dT kvs))) ∨ ∃ kvs o, H d = some (.frz o (.dT kvs)) ∧ H' d = some (.dT kvs)
  keep : ∀ a, a ≠ d → H' a = H a
theorem Like.ne {a : Addr} {u : HO} (l : Like ms ex d H H') (e : H a = some u) (h1 : ∀ kvs, u ≠ .dT kvs) (h2 : ∀ o kvs, u ≠ .frz o (.dT kvs)) : H' a = some u := by
  have : a ≠ d := fun z => by
    subst z
    rcases l.at_ with ⟨kvs, o, q, _⟩ | ⟨kvs, o, q, _⟩
    · rw [q] at e
      exact h1 _ (Option.some.inj e).symm
    · rw [q] at e
      exact h2 _ _ (Option.some.inj e).symm
  rw [l.keep a this]
  exact e
theorem Like.rd {a : Addr} {kvs : List (List Key × V)} (l : Like ms ex d H H') (e : Rd H a (.dT kvs)) : Rd H' a (.dT kvs) := by
  by_cases z : a = d
  · subst z
    rcases l.at_ with ⟨kvs', o, q, q'⟩ | ⟨kvs', o, q, q'⟩
    · rcases e with e | ⟨o', e⟩
      · rw [q] at e
        cases e
        exact .inr ⟨o, q'⟩
      · rw [q] at e
        cases e
    · rcases e with e | ⟨o', e⟩
      · rw [q] at e
        cases e
      · rw [q] at e
        cases e
        exact .inl q'
  · rcases e with e | ⟨o', e⟩
    · exact .inl ((l.keep a z).trans e)
    · exact .inr ⟨o', (l.keep a z).trans e⟩
mutual
theorem RV.like (l : Like ms ex d H H') : ∀ {v : V} {c : D}, RV K H ms ex v c → RV K H' ms ex v c
  | _, _, .non => .non
  | _, _, .bl b => .bl b
  | _, _, .int i => .int i
  | _, _, .str x => .str x
  | _, _, .tup s r => .tup (l.ne s (fun _ z => by cases z) fun _ _ z => by cases z) (RVs.like l r)
  | _, _, .fz s r => by
    refine .fz ?_ (RVs.like l r)
    rcases s with ⟨o, s⟩ | s
    · exact .inl ⟨o, l.ne s (fun _ z => by cases z) fun _ _ z => by cases z⟩
    · exact .inr s
  | _, _, .ct s r => by
    refine .ct ?_ (RVs.like l r)
    rcases s with (s | ⟨o, s⟩) | s
    · exact .inl (.inl (l.ne s (fun _ z => by cases z) fun _ _ z => by cases z))
    · exact .inl (.inr ⟨o, l.ne s (fun _ z => by cases z) fun _ _ z => by cases z⟩)
    · exact .inr s
  | _, _, .lst s n1 n2 r => .lst (l.ne s (fun _ z => by cases z) fun _ _ z => by cases z) n1 n2 (RVs.like l r)
  | _, _, .dk s n1 n2 q r => .dk (l.ne s (fun _ z => by cases z) fun _ _ z => by cases z) n1 n2 q (RVs.like l r)
  | _, _, .ins s n1 n2 q r => .ins (l.ne s (fun _ z => by cases z) fun _ _ z => by cases z) n1 n2 q (RVs.like l r)
  | _, _, .dt s n1 n2 q r => .dt (l.rd s) n1 n2 q (RVs.like l r)
  | _, _, .mu e => .mu e
theorem RVs.like (l : Like ms ex d H H') : ∀ {v : List V} {c : List D}, RVs K H ms ex v c → RVs K H' ms ex v c
  | _, _, .nil => .nil
  | _, _, .cons a b => .cons (RV.like l a) (RVs.like l b)
end
theorem RM.like (l : Like ms ex d H H') (m : RM tb K H ms ex M) : RM tb K H' ms ex M := by
  refine ⟨m.len, m.nd, fun n a c h1 h2 => (m.at_ n a c h1 h2).of (fun o e _ => ?_) fun r => RVs.like l r, fun b hb => ⟨(m.exs b hb).1, ?_⟩, fun b hb => ?_⟩
  · rw [l.keep a fun z => l.nm (z ▸ List.mem_of_getElem? h1)]
    exact e
  · have e := l.keep b fun z => l.nx (z ▸ hb)
    rcases (m.exs b hb).2 with ⟨xs, q⟩ | ⟨xs, q⟩ | ⟨xs, q⟩
    · exact .inl ⟨xs, e.trans q⟩
    · exact .inr (.inl ⟨xs, e.trans q⟩)
    · exact .inr (.inr ⟨xs, e.trans q⟩)
  · obtain ⟨ps, e, t⟩ := m.tbs b hb
    exact ⟨ps, l.ne e (fun _ z => by cases z) (fun _ _ z => by cases z), t⟩
theorem Sl.like {σ : L2.St} {r : En} (l : Like ms ex d H H') (s : Sl K H ms ex σ r) : Sl K H' ms ex σ r := s.lift fun r => RV.like l r
theorem like_lock {kvs : List (List Key × V)} {o : Obj} (n1 : d ∉ ms) (n2 : d ∉ ex) (e : H d = some (.dT kvs)) : Like ms ex d H (upd H d (.frz o (.dT kvs))) :=
  ⟨n1, n2, .inl ⟨kvs, o, e, upd_same⟩, fun _ z => upd_ne z⟩
theorem like_free {kvs : List (List Key × V)} {o : Obj} (n1 : d ∉ ms) (n2 : d ∉ ex) (e : H d = some (.frz o (.dT kvs))) : Like ms ex d H (upd H d (.dT kvs)) :=
  ⟨n1, n2, .inr ⟨kvs, o, e, upd_same⟩, fun _ z => upd_ne z⟩
/-- locked, gone on, let go -/
theorem ext_locked {kvs : List (List Key × V)} {o : Obj} (n1 : d ∉ ms) (e : H d = some (.dT kvs)) (x : Ext ms (upd H d (.frz o (.dT kvs))) H') : H' d = some (.frz o (.dT kvs)) ∧ Ext ms H (upd H' d (.dT kvs)) := by
  refine ⟨x d _ upd_same n1 (fun _ z => by cases z), fun a u ea na t => ?_, fun a ps ea na => ?_⟩
  · by_cases z : a = d
    · subst z
      rw [e] at ea
      cases ea
      exact upd_same
    · rw [upd_ne z]
      exact x a u ((upd_ne z).trans ea) na t
  · by_cases z : a = d
    · subst z
      rw [e] at ea
      cases ea
    · obtain ⟨ps', q⟩ := x.tab a ps ((upd_ne z).trans ea) na
      exact ⟨ps', (upd_ne z).trans q⟩
/-! ### its keys -/
def keyB : Key → D
  | .inl i => .int i
  | .inr x => .str x
def keyT (k : List Key) : D := .tup (k.map keyB)
theorem rv_keyB (k : Key) : RV K H ms ex (kV k) (keyB k) := by
  cases k with
  | inl i => exact .int i
  | inr x => exact .str x
theorem rvs_keyB : ∀ k : List Key, RVs K H ms ex (k.map kV) (k.map keyB)
  | [] => .nil
  | k :: ks => .cons (rv_keyB k) (rvs_keyB ks)
theorem zip_key {κ α : Type} : ∀ {ks : List κ} {ys : List α} {i : Nat} {p : κ × α}, (ks.zip ys)[i]? = some p → ks[i]? = some p.1
  | [], _, _, _, h => by simp at h
  | _ :: _, [], _, _, h => by simp at h
  | k :: ks, y :: ys, 0, p, h => by
    simp at h
    subst h
    rfl
  | k :: ks, y :: ys, i + 1, p, h => by
    have : (ks.zip ys)[i]? = some p := by simpa using h
    simpa using zip_key this
theorem keys_go {K : PySem.W.Frag} {ks : List (List Key)} {ys : List V} {o : Obj} (hl : ks.length = ys.length) (n1 : d ∉ ms) (e : H d = some (.frz o (.dT (ks.zip ys)))) (i : Nat) (H' : Hp) (c : D) (x : Ext ms H H') (hd : (ks.map keyT)[i]? = some c) :
    (Itkt d o (ks.zip ys)).go i H' ∧ ∀ v H2, (Itkt d o (ks.zip ys)).yld i H' v H2 → H2 = H' ∧ ∀ ex, RV K H' ms ex v c := by
  have e' := x d _ e n1 fun _ z => by cases z
  have lt : i < ks.length := by
    have := (List.getElem?_eq_some_iff.mp hd).1
    simpa using this
  refine ⟨⟨e', by rw [List.length_zip, ← hl]; simpa using lt⟩, fun v H2 hy => ⟨hy.1, fun ex => ?_⟩⟩
  obtain ⟨_, k, w, q, h1, rfl, h3⟩ := hy
  have h4 : ks[i]? = some k := zip_key h1
  rw [List.getElem?_map, h4] at hd
  cases hd
  exact .tup h3 (rvs_keyB k)
theorem keys_stop {ks : List (List Key)} {ys : List V} {o : Obj} (hl : ks.length = ys.length) (n1 : d ∉ ms) (e : H d = some (.frz o (.dT (ks.zip ys)))) (H' : Hp) (x : Ext ms H H') : (Itkt d o (ks.zip ys)).stop (ks.map keyT).length H' :=
  ⟨x d _ e n1 (fun _ z => by cases z), by rw [List.length_zip, ← hl, List.length_map]; simp⟩
/-! ### for k in x.f -/
/-- the dict in the field f of the instance in slot i -/
def dtAt (i : Nat) (C : Addr) (f : Str) (r : En) : Option (List (List Key)) := match r[i]? with
  | some (some (.ins C' ns ds)) => if C' = C then match look ns ds f with
      | some (.dt ks _) => some ks
      | _ => none
    else none
  | _ => none
def mForK (i : Nat) (C : Addr) (f : Str) (tg : FT) (g : FS) : FS := fun r M => match dtAt i C f r with
  | some ks => forD tg g (ks.map keyT) r M
  | none => none
theorem dtAt_ok {i : Nat} {C : Addr} {f : Str} {r : En} {σ : L2.St} {ks : List (List Key)} (s : Sl K H ms ex σ r) (e : dtAt i C f r = some ks) :
    ∃ a dx fs d ys, σ[i]? = some (some (.ref a)) ∧ H a = some (.ins C dx fs) ∧ fs.lookup f = some (.ref d) ∧ Rd H d (.dT (ks.zip ys)) ∧ ks.length = ys.length ∧ d ∉ ms ∧ d ∉ ex ∧ a ≠ d := by
  unfold dtAt at e
  split at e
  · rename_i C' ns ds h1
    split at e
    · rename_i ec
      subst ec
      split at e
      · rename_i ks' vs h2
        cases e
        obtain ⟨v, q, rv⟩ := s.at_ i _ h1
        cases rv with
        | ins q1 n1 n2 l rr =>
          obtain ⟨w, hw, rw'⟩ := lookup_ok rr h2
          cases rw' with
          | dt q2 n3 n4 l2 rr2 =>
            refine ⟨_, _, _, _, _, q, q1, hw, q2, by rw [l2, rr2.length], n3, n4, fun z => ?_⟩
            rw [z] at q1
            rcases q2 with q2 | ⟨o, q2⟩
            · rw [q1] at q2
              cases q2
            · rw [q1] at q2
              cases q2
      · cases e
    · cases e
  · cases e
section
variable {X : Cx} {st : Stmt} {t t' : TS} {e : Expr} {te te' : TE}
theorem ps_or (h : PS X st t) (h' : PS X st t') : PS X st (fun D σ H => t D σ H ∨ t' D σ H) := ⟨fun pins s σ H D I q => q.elim (h.run pins s σ H D I) (h'.run pins s σ H D I)⟩
theorem pe_or (h : PE X e te) (h' : PE X e te') : PE X e (fun σ H Q => te σ H Q ∨ te' σ H Q) := ⟨fun pins s σ H Q I q => q.elim (h.run pins s σ H Q I) (h'.run pins s σ H Q I)⟩
variable {pos p1 p2 : Pos} {tg : Expr} {sts : List Stmt} {ft : FT} {fs : FS}
theorem ms_forK {i : Nat} {x f : Str} {C : Addr} (cl : Cls X.K C) (na : NoAttr X.K C f) (hp : PassesOwn (model X.prog X.w) X.A X.env X.xe) (hc : X.calm = true) (hi : PE X (.Name x p1) (tVar i)) (hg : PG X tg (gM X.K ft)) (hb : PSs X sts (sM tb X.K fs))
    (hs : ∀ y, foldedSetIterable (.Attribute (.Name x p1) f p2) X.env y = Pure.pure y := by intro _; rfl) (hb2 : attributeBase (.Name x p1) f X.env (eval (.Name x p1) X.env) = eval (.Name x p1) X.env := by rfl) :
    PS X (.For tg (.Attribute (.Name x p1) f p2) sts [] pos) (sM tb X.K (mForK i C f ft fs)) := by
  have base := ps_for (pos := pos) hp hc (pi_keys (tg := tg) (pe_fld (pos := p2) hi hb2)) hg hb hs
  refine (ps_or (ps_lock base) base).weak fun E σ H h => ?_
  obtain ⟨ms, ex, r, M, o, M', m, s, e, q⟩ := h
  unfold mForK at e
  split at e
  · rename_i ks hk
    obtain ⟨a, dx, fds, d, ys, g1, g2, g3, g4, hl, n1, n2, ne⟩ := dtAt_ok s hk
    rcases g4 with g4 | ⟨od, g4⟩
    · refine .inl ⟨d, _, g4, trivial, fun od => ?_⟩
      have lk := like_lock (H := H) (o := od) n1 n2 g4
      have m0 := RM.like lk m
      have s0 := Sl.like lk s
      refine ⟨_, g1, a, C, dx, fds, _, rfl, (upd_ne ne).trans g2, cl, na, g3, d, od, rfl, .inr ⟨_, upd_same, ?_⟩⟩
      refine for_core (wi := iKeys (tFld X.K (tVar i) f)) m0 s0 e (fun H2 x2 m2 => ?_) (fun i H' c x hd => ?_) (fun H' x => keys_stop hl n1 upd_same H' x)
      · obtain ⟨e2, x3⟩ := ext_locked n1 g4 x2
        have fr := like_free n1 n2 e2
        have m3 := RM.like fr m2
        have z := q _ x3 m3
        cases o with
        | nx r' => exact fun σ' sl => ⟨e2, z σ' (Sl.like fr sl)⟩
        | rt c => exact fun v rv => ⟨e2, z v (RV.like fr rv)⟩
        | bk r' => exact fun σ' sl => ⟨e2, z σ' (Sl.like fr sl)⟩
        | ct r' => exact fun σ' sl => ⟨e2, z σ' (Sl.like fr sl)⟩
      · obtain ⟨z1, z2⟩ := keys_go (K := X.K) hl n1 upd_same i H' c x hd
        exact ⟨z1, fun v H2 y => ⟨(z2 v H2 y).1, fun _ _ => (z2 v H2 y).2 ex⟩⟩
    · refine .inr ⟨_, g1, a, C, dx, fds, _, rfl, g2, cl, na, g3, d, od, rfl, .inr ⟨_, g4, ?_⟩⟩
      refine for_core (wi := iKeys (tFld X.K (tVar i) f)) m s e (fun H2 x2 m2 => q H2 x2 m2) (fun i H' c x hd => ?_) (fun H' x => keys_stop hl n1 g4 H' x)
      obtain ⟨z1, z2⟩ := keys_go (K := X.K) hl n1 g4 i H' c x hd
      exact ⟨z1, fun v H2 y => ⟨(z2 v H2 y).1, fun _ _ => (z2 v H2 y).2 ex⟩⟩
  · cases e
/-! ### {k: v for k in x.f} -/
section
variable {f g h fk fe : FE} {fb : FB} {ft : FT} {vs : List Nat}
theorem dc_rdK {J : It} {σ : L2.St} {r : En} {xs : List D} {o0 od : D} {u0 : HO} {Q : VK} (n0 : New0 u0 o0) (m : RM tb K H ms ex M) (s : Sl K H ms ex σ r) (e : dcD ft fb fk fe (wipeD r vs) xs o0 M = some (od, M'))
    (fin : ∀ p H', H p = none → Ext ms H H' → RM tb K H' ms (p :: ex) M' → Raw K H' ms (p :: ex) p od → Q (.ref p) H')
    (hgo : ∀ (i : Nat) (H' : Hp) (d : D), Ext ms H H' → xs[i]? = some d → J.go i H' ∧ ∀ x H2, J.yld i H' x H2 → H2 = H' ∧ ∀ p, RV K H' ms (p :: ex) x d) (hst : ∀ H', Ext ms H H' → J.stop xs.length H') :
    ∀ d, H d = none → ∃ W : Nat → Nat → Hp → Prop, (∃ m, W 0 m (upd H d u0)) ∧ ∀ i m H', W i m H' →
      (J.stop i H' ∧ Q (.ref d) H') ∨ (J.go i H' ∧ ∃ Nx : Hp → Prop, (∀ H2, Nx H2 → ∃ m', m' < m ∧ W (i + 1) m' H2) ∧ ∀ x H2, J.yld i H' x H2 → HX.turnX (gW K vs ft) (bM tb K fb) (eM tb K fk) (eM tb K fe) vs σ d x H2 Nx) := by
  intro p hp
  obtain ⟨np1, np2⟩ := fresh_ms m hp
  have thing : ∀ {H2 : Hp} {d : D}, Raw K H2 ms (p :: ex) p d → Thing H2 p := fun z => z.thing
  let W : Nat → Nat → Hp → Prop := fun i k H2 => k = xs.length - i ∧ i ≤ xs.length ∧ ∃ Mi d, Ext ms H H2 ∧ RM tb K H2 ms (p :: ex) Mi ∧ Raw K H2 ms (p :: ex) p d ∧
    dcD ft fb fk fe (wipeD r vs) (xs.drop i) d Mi = some (od, M')
  have th0 : Thing (upd H p u0) p := (n0.raw (K := K) (ms := ms) (ex := ex)).thing
  refine ⟨W, ⟨xs.length, by omega, Nat.zero_le _, M, o0, Ext.of (same_new hp), lock_newO m hp th0, n0.raw, e⟩, ?_⟩
  rintro i k H2 ⟨hk, hi, Mi, d, x2, m2, raw, ee⟩
  by_cases hlt : i < xs.length
  · obtain ⟨hg, hyl⟩ := hgo i H2 xs[i] x2 (List.getElem?_eq_getElem hlt)
    rw [List.drop_eq_getElem_cons hlt] at ee
    unfold dcD at ee
    split at ee
    · rename_i r2 h2
      refine .inr ⟨hg, W (i + 1) (xs.length - (i + 1)), fun H' hN => ⟨xs.length - (i + 1), by omega, hN⟩, fun x H3 hx => ?_⟩
      obtain ⟨eH, rv⟩ := hyl x H3 hx
      subst eH
      have rv' := rv p
      have s2 : Sl K H3 ms (p :: ex) (L2.wipe σ vs) (wipeD r vs) := (s.wipe vs).lock m hp x2
      refine ⟨ms, p :: ex, _, xs[i], r2, s2, rv', h2, fun σ2 s3 w3 => ⟨w3.trans (wipe_wipe vs σ), ?_⟩⟩
      split at ee
      · rename_i M1 h3
        refine bM.use m2 s3 h3 fun H4 x4 m4 s4 => iteT ?_
        split at ee
        · rename_i ky M2 h4
          refine eM.use m4 s4 h4 fun H5 v5 x5 m5 s5 r5 => ?_
          split at ee
          · rename_i vl M3 h5
            refine eM.use m5 s5 h5 fun H6 v6 x6 m6 s6 r6 => ?_
            split at ee
            · rename_i d' hput
              have x46 := (x4.trans x5).trans x6
              have raw6 : Raw K H6 ms (p :: ex) p d := raw.of (fun o z t => x46 p o z np1 t) fun z => ((z.ext m2 x4).ext m4 x5).ext m5 x6
              obtain ⟨u, put, nt, mk⟩ := putO_ok raw6 (r5.ext m5 x6) r6 hput
              have raw7 : ∀ (z : ∀ {x : V} {c : D}, RV K H6 ms (p :: ex) x c → RV K (upd H6 p u) ms (p :: ex) x c), Raw K (upd H6 p u) ms (p :: ex) p d' := mk
              have th : Thing (upd H6 p u) p := by
                rcases put with ⟨kvs, k, e1, _, _, e2⟩ | ⟨kvs, k, b, e1, _, _, _, e2⟩
                · have : upd H6 p u p = upd H6 p _ p := congrFun e2 p
                  rw [upd_same] at this
                  exact .inr (.inl ⟨_, by rw [e2]; exact upd_same⟩)
                · exact .inr (.inr ⟨_, by rw [e2]; exact upd_same⟩)
              obtain ⟨lg, mg⟩ := lock_growO (o := u) m6 th
              exact ⟨_, put, rfl, hlt, M3, d', (x2.trans x46).grow hp, mg, mk lg, ee⟩
            · cases ee
          · cases ee
        · cases ee
      · rename_i M1 h3
        refine bM.use m2 s3 h3 fun H4 x4 m4 s4 => iteF ?_
        exact ⟨rfl, hlt, M1, d, x2.trans x4, m4, raw.of (fun o z t => x4 p o z np1 t) fun z => z.ext m2 x4, ee⟩
      · cases ee
    · cases ee
  · have ei : i = xs.length := by omega
    subst ei
    rw [List.drop_length] at ee
    cases ee
    exact .inl ⟨hst H2 x2, fin p H2 hp x2 m2 raw⟩
end

def mDcK (o0 : D) (i : Nat) (C : Addr) (f : Str) (tg : FT) (t : FB) (fk fe : FE) (vs : List Nat) : FE := fun r M => match dtAt i C f r with
  | some ks => dcD tg t fk fe (wipeD r vs) (ks.map keyT) o0 M
  | none => none
theorem me_dcK {o0 : D} {u0 : HO} {kx vx tg : Expr} {ifs : List Expr} {scope : Scope} {own : List (Str × Nat)} {fk fe : FE} {fb : FB} {i : Nat} {x f : Str} {C : Addr} (n0 : New0 u0 o0) (calm : X.calm = true) (room : X.A.units + 1 < cLine) (nd : X.N.Nodup) (ok : BlkOk X.N X.env.scope scope own)
    (cl : Cls X.K C) (na : NoAttr X.K C f) (hi : PE X (.Name x p1) (tVar i))
    (pt : HX.PartsX X scope tg kx vx ifs (gW X.K (own.map (·.2)) ft) (bM tb X.K fb) (eM tb X.K fk) (eM tb X.K fe)) (fold : ∀ y, foldedSetIterable (.Attribute (.Name x p1) f p2) X.env y = Pure.pure y := by intro _; rfl)
    (hb2 : attributeBase (.Name x p1) f X.env (eval (.Name x p1) X.env) = eval (.Name x p1) X.env := by rfl) :
    PE X (.DictComp kx vx [⟨tg, .Attribute (.Name x p1) f p2, ifs, 0⟩] scope pos) (eM tb X.K (mDcK o0 i C f ft fb fk fe (own.map (·.2)))) := by
  have base := HX.pe_dx (pos := pos) n0.fresh calm room nd (pi_keys (tg := tg) (pe_fld (pos := p2) hi hb2)) ok pt fold
  refine (pe_or (pe_lock base) base).weak fun σ H Q h => ?_
  obtain ⟨ms, ex, r, M, o, M', m, s, e, q⟩ := h
  unfold mDcK at e
  split at e
  · rename_i ks hk
    obtain ⟨a, dx, fds, d, ys, g1, g2, g3, g4, hl, n1, n2, ne⟩ := dtAt_ok s hk
    rcases g4 with g4 | ⟨od, g4⟩
    · refine .inl ⟨d, _, g4, trivial, fun od => ?_⟩
      have lk := like_lock (H := H) (o := od) n1 n2 g4
      have m0 := RM.like lk m
      have s0 := Sl.like lk s
      refine ⟨_, g1, a, C, dx, fds, _, rfl, (upd_ne ne).trans g2, cl, na, g3, d, od, rfl, .inr ⟨_, upd_same, ?_⟩⟩
      refine dc_rdK (Q := fun v H' => H' d = some (.frz od (.dT (ks.zip ys))) ∧ Q v (upd H' d (.dT (ks.zip ys)))) n0 m0 s0 e (fun p H2 hp x2 m2' raw => ?_) (fun i H' c x hd => ?_) (fun H' x => keys_stop hl n1 upd_same H' x)
      rotate_left
      · obtain ⟨z1, z2⟩ := keys_go (K := X.K) hl n1 upd_same i H' c x hd
        exact ⟨z1, fun v H2 y => ⟨(z2 v H2 y).1, fun p => (z2 v H2 y).2 (p :: ex)⟩⟩
      obtain ⟨m2, rv⟩ := raw_out m2' (fresh_ms m0 hp).2 raw
      obtain ⟨e2, x3⟩ := ext_locked n1 g4 x2
      have fr := like_free n1 n2 e2
      exact ⟨e2, q _ _ x3 (RM.like fr m2) (RV.like fr rv)⟩
    · refine .inr ⟨_, g1, a, C, dx, fds, _, rfl, g2, cl, na, g3, d, od, rfl, .inr ⟨_, g4, ?_⟩⟩
      refine dc_rdK n0 m s e (fun p H2 hp x2 m2' raw => ?_) (fun i H' c x hd => ?_) (fun H' x => keys_stop hl n1 g4 H' x)
      · obtain ⟨m2, rv⟩ := raw_out m2' (fresh_ms m hp).2 raw
        exact q _ _ x2 m2 rv
      · obtain ⟨z1, z2⟩ := keys_go (K := X.K) hl n1 g4 i H' c x hd
        exact ⟨z1, fun v H2 y => ⟨(z2 v H2 y).1, fun p => (z2 v H2 y).2 (p :: ex)⟩⟩
  · cases e
end
end NL

/-! HX4: zip(a list, a tuple). -/
namespace HX
open PySem PySem.Spec PyProof.Rows L2
/-- the list at a and the tuple at b, as they stand at each turn -/
def ItzM (K : PySem.W.Frag) (a b : Addr) : It where
  go := fun i H => ∃ xs ys x y, SqL K H a xs ∧ SqT K H b ys ∧ xs[i]? = some x ∧ ys[i]? = some y
  yld := fun i H v H' => ∃ p x y, v = .ref p ∧ H p = none ∧ H' = upd H p (.tup [x, y]) ∧ (∀ xs, SqL K H a xs → xs[i]? = some x) ∧ ∀ ys, SqT K H b ys → ys[i]? = some y
  stop := fun i H => ∃ xs ys, SqL K H a xs ∧ SqT K H b ys ∧ i ≤ xs.length ∧ i ≤ ys.length ∧ (i = xs.length ∨ i = ys.length)
def ZSt (z c t u v a b : Addr) (i : Nat) (h : Heap) : Prop := IsZip h z c t .none ∧ IsTupOf2 h c (.ref u) (.ref v) ∧ (∃ x y, IsTupOf2 h t x y) ∧ h.IsListIter u a i ∧ h.IsTupleIter v b i
theorem turn_zipM {P : Program} {w : World} {K : PySem.W.Frag} {es : List Expr} {k : Nat} {ps : Pos} {a b z c t u v : Addr} (S : ZipSep2 z c t u v [u, a] [v, b]) (na : a ≠ u) (nb : b ≠ v) :
    Turn P w K (.Tuple es k ps) (ItzM K a b) [z, c, t, u, v] z (ZSt z c t u v a b) where
  mem := List.mem_cons_self
  obj := by
    rintro i h ⟨gz, gc, ⟨x, y, gt⟩, ⟨o1, e1, _, d1⟩, ⟨o2, e2, _, d2⟩⟩ q hq
    simp only [List.mem_cons, List.not_mem_nil, or_false] at hq
    rcases hq with rfl | rfl | rfl | rfl | rfl
    · exact ⟨_, gz, fun _ z => nomatch z⟩
    · exact ⟨_, gc, fun _ z => nomatch z⟩
    · exact ⟨_, gt, fun _ z => nomatch z⟩
    · exact ⟨o1, e1, fun _ z => by rw [d1] at z; cases z⟩
    · exact ⟨o2, e2, fun _ z => by rw [d2] at z; cases z⟩
  keep := by
    rintro i h h' ⟨gz, gc, ⟨x, y, gt⟩, g1, g2⟩ kp
    exact ⟨kp z (by simp) _ gz, kp c (by simp) _ gc, ⟨x, y, kp t (by simp) _ gt⟩, g1.at fun o e => kp u (by simp) o e, g2.at fun o e => kp v (by simp) o e⟩
  item := by
    rintro X rfl rfl rfl hc i pins s σ H E I hf ⟨gz, gc, ⟨x0, y0, gt⟩, g1, g2⟩ ⟨xs, ys, x, y, q1, q2, hx, hy⟩
    obtain ⟨as, ra, pa, _⟩ := I.list q1
    obtain ⟨bs, rb, pb, _⟩ := I.tuple q2
    obtain ⟨x', ex, rx⟩ := ra.get hx
    obtain ⟨y', ey, ry⟩ := rb.get hy
    have hh : X.A.in1.handled = none := I.ok.hd hc
    have zl : z < s.heap.objs.size := Heap.lt_size gz
    have l1 : i < as.toArray.size := by simpa using (List.getElem?_eq_some_iff.mp ex).1
    have l2 : i < bs.toArray.size := by simpa using (List.getElem?_eq_some_iff.mp ey).1
    refine wpAny_pyNext_zipD2_item S (Draws.list hh u a na as.toArray) (Draws.tuple hh v b nb bs.toArray) gz gc gt ⟨g1, pa.isList⟩ ⟨g2, pb⟩ l1 l2 ?_
    intro x1 y1 h' tk ex1 ey1 gz' gt' st1 st2 hT hsz hk
    have hx1 : x' = x1 := by
      have ex1 : as[i]? = some x1 := by simpa using ex1
      rw [ex] at ex1
      exact Option.some.inj ex1
    have hy1 : y' = y1 := by
      have ey1 : bs[i]? = some y1 := by simpa using ey1
      rw [ey] at ey1
      exact Option.some.inj ey1
    subst hx1 hy1
    refine ⟨_, rfl, wpAny_letOwnedTupleGo_zip (s := { s with heap := h', toks := tk }) gz' fun h2 gz2 sb => ?_⟩
    have hT2 : h2.get? s.heap.objs.size = some { cls := .type "tuple", data := .seq #[x', y'] } := (sb.2 _ (Nat.ne_of_gt zl)).trans hT
    have new : ObjOk X.prog X.w (upd H s.heap.objs.size (.tup [x, y])) h2 s.heap.objs.size (.tup [x, y]) := ⟨show 2 ≤ sizeLine by decide, [x', y'], .cons rx (.cons ry .nil), ⟨_, hT2, rfl, _, rfl⟩⟩
    have back : ∀ q o, q ∉ [z, c, t, u, v] → s.heap.get? q = some o → h2.get? q = some o := fun q o hq e => by
      simp only [List.mem_cons, List.not_mem_nil, or_false, not_or] at hq
      exact (sb.2 q hq.1).trans (hk q o hq.1 hq.2.2.1 hq.2.2.2.1 hq.2.2.2.2 e)
    have I1 : Inv X pins σ (upd H s.heap.objs.size (.tup [x, y])) { s with heap := h2, toks := tk } := I.turnedNew (t' := tk) (ch := [z, c, t, u, v]) (fun q o hq e => back q o hq e) hf (Nat.le_refl _) new
    refine ⟨.ref s.heap.objs.size, _, I1, rfl, ⟨_, x, y, rfl, I.hok.fresh (Nat.le_refl _), rfl, fun l hl => (by rw [I.list_inj hl q1]; exact hx), fun l hl => (by rw [I.tuple_inj hl q2]; exact hy)⟩, ⟨gz2, ?_, ⟨x', y', ?_⟩, ?_, ?_⟩, fun q hq => ?_⟩
    · exact (sb.2 _ S.TIz).trans (hk _ _ S.TIz S.TITO S.TIi1 S.TIi2 gc)
    · exact (sb.2 _ S.TOz).trans gt'
    · exact st1.1.at fun o e => (sb.2 u (Ne.symm S.zi1)).trans e
    · exact st2.1.at fun o e => (sb.2 v (Ne.symm S.zi2)).trans e
    · have lt : q < s.heap.objs.size := by
        simp only [List.mem_cons, List.not_mem_nil, or_false] at hq
        rcases hq with rfl | rfl | rfl | rfl | rfl
        · exact zl
        · exact Heap.lt_size gc
        · exact Heap.lt_size gt
        · exact g1.elim fun _ e => Heap.lt_size e.1
        · exact g2.elim fun _ e => Heap.lt_size e.1
      rw [upd_ne (Nat.ne_of_lt lt)]
      exact (hf q hq).1
  done := by
    rintro X rfl rfl rfl hc i pins s σ H E I hf ⟨gz, gc, ⟨x0, y0, gt⟩, g1, g2⟩ ⟨xs, ys, q1, q2, le1, le2, fin⟩
    obtain ⟨as, ra, pa, _⟩ := I.list q1
    obtain ⟨bs, rb, pb, _⟩ := I.tuple q2
    have hh : X.A.in1.handled = none := I.ok.hd hc
    have e1 := ra.length
    have e2 := rb.length
    refine wpAny_pyNext_zipD2_end S (Draws.list hh u a na as.toArray) (Draws.tuple hh v b nb bs.toArray) gz gc gt ⟨g1, pa.isList⟩ ⟨g2, pb⟩ (by simp; omega) (by simp; omega) (by simp; omega) fun h' tk hk => ⟨rfl, ?_⟩
    exact I.turnedL (t' := tk) (ch := [z, c, t, u, v]) (fun q o hq e => by
      simp only [List.mem_cons, List.not_mem_nil, or_false, not_or] at hq
      exact hk q o hq.1 hq.2.2.1 hq.2.2.2.1 hq.2.2.2.2 e) hf
  self := fun A i s Q E st h => wpAny_pyIter_zip st.1 h
def iZipM (K : PySem.W.Frag) (ta : TA) : TI := fun σ H R => ta σ H fun vs H1 => ∃ a b xs ys, vs = [.ref a, .ref b] ∧ SqL K H1 a xs ∧ SqT K H1 b ys ∧ R (ItzM K a b) H1
theorem pi_zipM {X : Cx} {e e2 : Expr} {ta : TA} {p pos ps : Pos} {es : List Expr} {k : Nat} (hg : Gl X "zip") (hm : X.mg "zip" = none) (ha : PA X [e, e2] ta)
    (hs : starEach [e, e2] X.env = (false, eval e X.env) :: starEach [e2] X.env := by rfl) (hpl : (backTo pos (starEach [e2] X.env)).any (·.1) = false := by rfl) : PI X (.Tuple es k ps) (.Call (.Name "zip" p) [e, e2] [] pos) (iZipM X.K ta) := by
  constructor
  intro pins s σ H R I h
  refine Call_ (ld_blt I hg hm PyProof.Rows.boot_zip (PyProof.Rows.callWith_type1 (thn (ha.run pos pins s σ H _ I h) fun us s1 ⟨vs, H1, I1, r1, a, b, xs, ys, ex, q1, q2, q⟩ => ?_) hs hpl))
  subst ex
  obtain ⟨as, ra, pa, _⟩ := I1.list q1
  obtain ⟨bs, rb, pb, _⟩ := I1.tuple q2
  cases r1 with
  | cons r r1 =>
    cases r1 with
    | cons r' r1 =>
      cases r1
      cases r
      cases r'
      have la : a < s1.heap.objs.size := pa.lt
      have lb : b < s1.heap.objs.size := pb.elim fun _ e => Heap.lt_size e.1
      have sep := zip_sep2 (N := s1.heap.objs.size) (fp1 := [a]) (fp2 := [b]) (by simpa using la) (by simpa using lb)
      refine zip_begins2 (begins_list a as.toArray) (begins_tuple b bs.toArray) pa.isList pb fun h' gz gc gt g1 g2 hsz hk => wpAny_pyIter_zip gz ?_
      have I2 : Inv X pins σ H1 { s1 with heap := h' } := I1.kept (t' := s1.toks) hk
      refine ⟨_, _, _, _, H1, rfl, I2, turn_zipM sep (Nat.ne_of_lt la) (Nat.ne_of_lt (Nat.lt_succ_of_lt lb)), ⟨gz, gc, ⟨_, _, gt⟩, ⟨_, g1, rfl, rfl⟩, ⟨_, g2, rfl, rfl⟩⟩, fun q hq => ?_, q⟩
      have le : s1.heap.objs.size ≤ q := by
        simp only [List.mem_cons, List.not_mem_nil, or_false] at hq
        rcases hq with rfl | rfl | rfl | rfl | rfl
        · exact Nat.le_add_right _ _
        · exact Nat.le_add_right _ _
        · exact Nat.le_add_right _ _
        · exact Nat.le_refl _
        · exact Nat.le_add_right _ _
      exact I1.fpOk le (I1.hok.fresh le)
end HX

/-! N25: bits; loops over enumerate(..) and zip(..). -/
namespace NL
open PySem PySem.Spec PyProof.Rows L2
variable {tb : List Addr} {K : PySem.W.Frag} {H H' H1 H2 : Hp} {ms ms' ex ex' : List Addr} {M M' M1 : MM} {d : Addr}
/-! ### bits -/
def oBits (g : Int → Int → Int) := oI fun i j => some (.int (g i j))
theorem s_bits {g : Int → Int → Int} : OpS tb K (rI0 fun i j => .int (g i j)) (oBits g) := by
  intro H ms ex M v u x y z Q m rv ru e q
  unfold oBits oI at e
  split at e
  · cases e
    cases rv
    cases ru
    exact ⟨_, _, rfl, rfl, q H _ (Ext.refl H) m (.int _)⟩
  · cases e
def oBand := oBits Builtin.bitAnd
def oBor := oBits Builtin.bitOr
def oBxor := oBits Builtin.bitXor
theorem s_band : OpS tb K (rI0 fun i j => .int (Builtin.bitAnd i j)) oBand := s_bits
theorem s_bor : OpS tb K (rI0 fun i j => .int (Builtin.bitOr i j)) oBor := s_bits
theorem s_bxor : OpS tb K (rI0 fun i j => .int (Builtin.bitXor i j)) oBxor := s_bits
def oShr := oI fun i j => if 0 ≤ j then some (.int (i / 2 ^ j.toNat)) else none
theorem s_shr : OpS tb K (rI (fun _ j => 0 ≤ j) fun i j => .int (i / 2 ^ j.toNat)) oShr := by
  intro H ms ex M v u x y z Q m rv ru e q
  unfold oShr oI at e
  split at e
  · dsimp only at e
    split at e
    · rename_i hc
      cases e
      cases rv
      cases ru
      exact ⟨_, _, rfl, rfl, hc, q H _ (Ext.refl H) m (.int _)⟩
    · cases e
  · cases e
def oShl := oI fun i j => if 0 ≤ j ∧ j ≤ 1000000 ∧ i.natAbs < 2 ^ 64 then some (.int (i * 2 ^ j.toNat)) else none
theorem s_shl : OpS tb K (rI CPow fun i j => .int (i * 2 ^ j.toNat)) oShl := by
  intro H ms ex M v u x y z Q m rv ru e q
  unfold oShl oI at e
  split at e
  · dsimp only at e
    split at e
    · rename_i hc
      cases e
      cases rv
      cases ru
      exact ⟨_, _, rfl, rfl, hc, q H _ (Ext.refl H) m (.int _)⟩
    · cases e
  · cases e
/-! ### loops over what makes something each turn -/
section
variable {ft : FT} {fs : FS}
theorem for_coreN {wi : TI} {J : It} {E : Ends} {σ : L2.St} {r : En} {xs : List D} {o : Out} (m : RM tb K H ms ex M) (s : Sl K H ms ex σ r) (e : forD ft fs xs r M = some (o, M')) (q : ∀ H', Ext ms H H' → RM tb K H' ms ex M' → oEnd K ms ex E H' o)
    (hgo : ∀ (i : Nat) (H' : Hp) (c : D), Ext ms H H' → xs[i]? = some c → J.go i H' ∧ ∀ x H2, J.yld i H' x H2 → ∀ N, RM tb K H' ms ex N → Ext ms H' H2 ∧ RM tb K H2 ms ex N ∧ RV K H2 ms ex x c) (hst : ∀ H', Ext ms H H' → J.stop xs.length H') :
    ∃ W : Nat → Nat → L2.St → Hp → Prop, (∃ k, W 0 k σ H) ∧ ∀ i k σ H, W i k σ H →
      (J.stop i H ∧ E.nx σ H) ∨ (J.go i H ∧ ∃ N : L2.St → Hp → Prop, (∀ σ' H', N σ' H' → ∃ k', k' < k ∧ W (i + 1) k' σ' H') ∧ ∀ x H', J.yld i H x H' → gM K ft x σ H' fun σ2 H2 => sM tb K fs { E with nx := N, ct := N, bk := E.nx } σ2 H2) := by
  refine ⟨fun i k σ' H' => k = xs.length - i ∧ i ≤ xs.length ∧ ∃ r' M1, Ext ms H H' ∧ RM tb K H' ms ex M1 ∧ Sl K H' ms ex σ' r' ∧ forD ft fs (xs.drop i) r' M1 = some (o, M'), ⟨xs.length, by omega, Nat.zero_le _, r, M, Ext.refl H, m, s, e⟩, ?_⟩
  rintro i k σ1 H1 ⟨hk, hi, r1, M1, x1, m1, s1, e1⟩
  by_cases hlt : i < xs.length
  · obtain ⟨hg, hy⟩ := hgo i H1 xs[i] x1 (List.getElem?_eq_getElem hlt)
    rw [List.drop_eq_getElem_cons hlt] at e1
    unfold forD at e1
    split at e1
    · rename_i r2 h2
      refine .inr ⟨hg, fun σ' H' => i + 1 ≤ xs.length ∧ ∃ r' M2, Ext ms H H' ∧ RM tb K H' ms ex M2 ∧ Sl K H' ms ex σ' r' ∧ forD ft fs (xs.drop (i + 1)) r' M2 = some (o, M'), fun σ' H' hN => ⟨xs.length - (i + 1), by omega, rfl, hN⟩, fun x H' hx => ?_⟩
      obtain ⟨x2, m2, rv⟩ := hy x H' hx M1 m1
      have x12 := x1.trans x2
      refine ⟨ms, ex, r1, xs[i], r2, s1.ext m1 x2, rv, h2, fun σ2 s2 => ?_⟩
      split at e1
      · rename_i r3 M3 h3
        exact sM.use m2 s2 h3 fun H3 x3 m3 σ3 s3 => ⟨hlt, r3, M3, x12.trans x3, m3, s3, e1⟩
      · rename_i r3 M3 h3
        exact sM.use m2 s2 h3 fun H3 x3 m3 σ3 s3 => ⟨hlt, r3, M3, x12.trans x3, m3, s3, e1⟩
      · rename_i r3 M3 h3
        cases e1
        exact sM.use m2 s2 h3 fun H3 x3 m3 σ3 s3 => q H3 (x12.trans x3) m3 σ3 s3
      · rename_i d3 M3 h3
        cases e1
        exact sM.use m2 s2 h3 fun H3 x3 m3 v3 rv3 => q H3 (x12.trans x3) m3 v3 rv3
      · cases e1
    · cases e1
  · have ei : i = xs.length := by omega
    subst ei
    rw [List.drop_length] at e1
    cases e1
    exact .inl ⟨hst H1 x1, q H1 x1 m1 σ1 s1⟩
/-- a pair made anew -/
theorem pair_new {p : Addr} {x y : V} {c1 c2 : D} (m : RM tb K H ms ex M) (hp : H p = none) (r1 : RV K H ms ex x c1) (r2 : RV K H ms ex y c2) :
    Ext ms H (upd H p (.tup [x, y])) ∧ RM tb K (upd H p (.tup [x, y])) ms ex M ∧ RV K (upd H p (.tup [x, y])) ms ex (.ref p) (.tup [c1, c2]) := new_tup m hp (.cons r1 (.cons r2 .nil))
/-! ### for i, x in enumerate(a list) -/
def enumD (i : Nat) : List D → List D
  | [] => []
  | x :: xs => .tup [.int (i : Nat), x] :: enumD (i + 1) xs
theorem enumD_len : ∀ (i : Nat) (xs : List D), (enumD i xs).length = xs.length
  | _, [] => rfl
  | i, _ :: xs => congrArg (· + 1) (enumD_len (i + 1) xs)
theorem enumD_get : ∀ {xs : List D} {k i : Nat} {c : D}, (enumD k xs)[i]? = some c → ∃ x, xs[i]? = some x ∧ c = .tup [.int ((k + i : Nat) : Int), x]
  | [], _, _, _, h => by cases h
  | x :: xs, k, 0, c, h => ⟨x, rfl, (Option.some.inj h).symm⟩
  | x :: xs, k, i + 1, c, h => by
    obtain ⟨y, h1, h2⟩ := enumD_get (xs := xs) (k := k + 1) (i := i) h
    refine ⟨y, h1, ?_⟩
    rw [h2]
    congr 3
    omega
def mForE (fa : FA) (tg : FT) (f : FS) : FS := fun r M => match fa r M with
  | some ([.lst xs], M1) => forD tg f (enumD 0 xs) r M1
  | _ => none
variable {X : Cx} {pos p2 : Pos} {a b : Expr} {tg : Expr} {sts : List Stmt} {fa : FA}
theorem ms_forE {p ps : Pos} {es : List Expr} {k : Nat} (hp : PassesOwn (model X.prog X.w) X.A X.env X.xe) (hc : X.calm = true) (hgl : Gl X "enumerate") (hm : X.mg "enumerate" = none) (hi : PA X [a] (aM tb X.K fa)) (hg : PG X (.Tuple es k ps) (gM X.K ft)) (hb : PSs X sts (sM tb X.K fs))
    (h0 : starEach [a] X.env = [(false, eval a X.env)] := by rfl) (hs : ∀ y, foldedSetIterable (.Call (.Name "enumerate" p) [a] [] p2) X.env y = Pure.pure y := by intro _; rfl) :
    PS X (.For (.Tuple es k ps) (.Call (.Name "enumerate" p) [a] [] p2) sts [] pos) (sM tb X.K (mForE fa ft fs)) :=
  (ps_for hp hc (pi_enum hgl hm hi h0) hg hb hs).weak fun E σ H h => by
    obtain ⟨ms, ex, r, M, o, M', m, s, e, q⟩ := h
    unfold mForE at e
    split at e
    · rename_i xs M1 h1
      refine aM.use m s h1 fun H1 v1 x1 m1 s1 r1 => ?_
      cases r1 with
      | cons r1 rr =>
        cases rr
        cases r1 with
        | lst sq n1 n2 rr =>
          rename_i l vs
          have still : ∀ {H'}, Ext ms H1 H' → SqL X.K H' l vs := fun x => SqL.of (x _ _ sq n1 fun _ z => by cases z)
          refine ⟨_, _, rfl, SqL.of sq, for_coreN (wi := iEnum X.K (aM tb X.K fa)) m1 s1 e (fun H2 x2 m2 => q H2 (x1.trans x2) m2) (fun i H' c x hd => ?_) fun H' x => ⟨vs, still x, by rw [enumD_len, rr.length]; exact Nat.le_refl _⟩⟩
          obtain ⟨y, h2, rfl⟩ := enumD_get hd
          obtain ⟨w, h3, rw'⟩ := rr.get h2
          refine ⟨⟨vs, w, still x, h3⟩, fun v H2 hy N mN => ?_⟩
          obtain ⟨p, u, rfl, hpn, rfl, hu⟩ := hy
          have := hu vs (still x)
          rw [h3] at this
          cases this
          have e0 : ((0 + i : Nat) : Int) = (i : Nat) := by omega
          rw [e0]
          exact pair_new mN hpn (.int _) (rw'.ext m1 x)
    · cases e
/-! ### for x, y in zip(a list, a tuple) -/
def zipD : List D → List D → List D
  | x :: xs, y :: ys => .tup [x, y] :: zipD xs ys
  | _, _ => []
theorem zipD_len : ∀ (xs ys : List D), (zipD xs ys).length ≤ xs.length ∧ (zipD xs ys).length ≤ ys.length ∧ ((zipD xs ys).length = xs.length ∨ (zipD xs ys).length = ys.length)
  | [], _ => ⟨Nat.le_refl _, Nat.zero_le _, .inl rfl⟩
  | _ :: _, [] => ⟨Nat.zero_le _, Nat.le_refl _, .inr rfl⟩
  | x :: xs, y :: ys => by
    obtain ⟨h1, h2, h3⟩ := zipD_len xs ys
    simp only [zipD, List.length_cons]
    omega
theorem zipD_get : ∀ {xs ys : List D} {i : Nat} {c : D}, (zipD xs ys)[i]? = some c → ∃ x y, xs[i]? = some x ∧ ys[i]? = some y ∧ c = .tup [x, y]
  | [], _, _, _, h => by cases h
  | _ :: _, [], _, _, h => by cases h
  | x :: xs, y :: ys, 0, c, h => ⟨x, y, rfl, rfl, (Option.some.inj h).symm⟩
  | x :: xs, y :: ys, i + 1, c, h => zipD_get (xs := xs) (ys := ys) (i := i) h
def mForZ (fa : FA) (tg : FT) (f : FS) : FS := fun r M => match fa r M with
  | some ([.lst xs, .tup ys], M1) => forD tg f (zipD xs ys) r M1
  | _ => none
theorem ms_forZ {p ps : Pos} {es : List Expr} {k : Nat} (hp : PassesOwn (model X.prog X.w) X.A X.env X.xe) (hc : X.calm = true) (hgl : Gl X "zip") (hm : X.mg "zip" = none) (hi : PA X [a, b] (aM tb X.K fa)) (hg : PG X (.Tuple es k ps) (gM X.K ft)) (hb : PSs X sts (sM tb X.K fs))
    (h0 : starEach [a, b] X.env = (false, eval a X.env) :: starEach [b] X.env := by rfl) (hpl : (backTo p2 (starEach [b] X.env)).any (·.1) = false := by rfl) (hs : ∀ y, foldedSetIterable (.Call (.Name "zip" p) [a, b] [] p2) X.env y = Pure.pure y := by intro _; rfl) :
    PS X (.For (.Tuple es k ps) (.Call (.Name "zip" p) [a, b] [] p2) sts [] pos) (sM tb X.K (mForZ fa ft fs)) :=
  (ps_for hp hc (HX.pi_zipM hgl hm hi h0 hpl) hg hb hs).weak fun E σ H h => by
    obtain ⟨ms, ex, r, M, o, M', m, s, e, q⟩ := h
    unfold mForZ at e
    split at e
    · rename_i xs ys M1 h1
      refine aM.use m s h1 fun H1 v1 x1 m1 s1 r1 => ?_
      cases r1 with
      | cons r1 rr =>
        cases rr with
        | cons r2 rr =>
          cases rr
          cases r1 with
          | lst sq n1 n2 ra =>
            cases r2 with
            | tup sq2 rb =>
              rename_i l vs l2 us
              have stA : ∀ {H'}, Ext ms H1 H' → SqL X.K H' l vs := fun x => SqL.of (x _ _ sq n1 fun _ z => by cases z)
              have stB : ∀ {H'}, Ext ms H1 H' → SqT X.K H' l2 us := fun x => SqT.stay (ms := ms) (ex := ex) (fun _ z => m1.lst z) (fun b o e n _ t => x b o e n t) (SqT.of sq2)
              refine ⟨_, _, _, _, rfl, SqL.of sq, SqT.of sq2, for_coreN (wi := HX.iZipM X.K (aM tb X.K fa)) m1 s1 e (fun H2 x2 m2 => q H2 (x1.trans x2) m2) (fun i H' c x hd => ?_) fun H' x => ?_⟩
              · obtain ⟨y1, y2, h2, h3, rfl⟩ := zipD_get hd
                obtain ⟨w1, g1, rw1⟩ := ra.get h2
                obtain ⟨w2, g2, rw2⟩ := rb.get h3
                refine ⟨⟨vs, us, w1, w2, stA x, stB x, g1, g2⟩, fun v H2 hy N mN => ?_⟩
                obtain ⟨p, u1, u2, rfl, hpn, rfl, hu1, hu2⟩ := hy
                have e1 := hu1 vs (stA x)
                rw [g1] at e1
                cases e1
                have e2 := hu2 us (stB x)
                rw [g2] at e2
                cases e2
                exact pair_new mN hpn (rw1.ext m1 x) (rw2.ext m1 x)
              · obtain ⟨z1, z2, z3⟩ := zipD_len xs ys
                have e1 := ra.length
                have e2 := rb.length
                exact ⟨vs, us, stA x, stB x, by omega, by omega, by omega⟩
    · cases e
end
end NL

/-! HX5: {k: v, ..} with keys of any sort; xs.count(True). -/
namespace HX
open PySem PySem.Spec PyProof.Rows L2
/-- pairs put into the dict at d, from the left -/
def tStore (d : Addr) : List (V × V) → Hp → (Hp → Prop) → Prop
  | [], H, Q => Q H
  | (y, z) :: r, H, Q => ∃ H', DPut H d y z H' ∧ tStore d r H' Q
def tDispX (o0 : HO) (trs : List (TE × TE)) : TE := fun σ H Q => ∀ p, H p = none → tPairs trs σ (upd H p o0) fun ps H2 => tStore p ps H2 fun H3 => Q (.ref p) H3
section
variable {X : Cx} {pins : List (Addr × Obj)} {σ : L2.St}
theorem store_run {E : Value → Shared → Prop} {d : Addr} (room : X.A.units + 1 < cLine) : ∀ {ps : List (V × V)} {ws : List (Value × Value)} {H : Hp} {s : Shared} {Q : Hp → Prop}, VV ps ws → Inv X pins σ H s → tStore d ps H Q →
    wpAny (model X.prog X.w) X.A (storeAll d ws) (fun _ s' => ∃ H', Inv X pins σ H' s' ∧ Q H') E s
  | [], _, H, s, Q, .nil, I, q => by
    unfold storeAll
    rw [List.forIn_nil]
    exact wpAny_pure ⟨H, I, q⟩
  | (y, z) :: r, _ :: ws, H, s, Q, .cons h t, I, q => by
    obtain ⟨H', g, q'⟩ := q
    unfold storeAll
    rw [List.forIn_cons]
    refine wpAny_bind (wpAny_bind (put_dict room I g h.1 h.2 fun s' I' => wpAny_pure ?_))
    exact store_run room t I' q'
theorem pe_dispX {o0 : HO} {pos : Pos} {keys : List (Option Expr)} {values : List Expr} {trs : List (TE × TE)} (fr : Fresh o0) (room : X.A.units + 1 < cLine) (h : PPs X pos keys values trs) (hall : keys.all (·.isSome) = true) (hl : keys.length = values.length) (h0 : keys ≠ [])
    (h15 : keys.length ≤ 15) : PE X (.Dict keys values pos) (tDispX o0 trs) := by
  constructor
  intro pins s σ H Q I q
  have hn := I.hok.fresh (Nat.le_refl s.heap.objs.size)
  have I1 : Inv X pins σ (upd H s.heap.objs.size o0) { s with heap := s.heap.push { cls := .type "dict", data := .dict #[] } } := I.laid (t' := s.toks) (fun _ _ e => Heap.get?_push_of_some _ e) (Nat.le_refl _) (fr.okd s.heap I.big)
  refine wpAny_Dict_any hall hl h0 h15 (thn (h.run pins _ σ _ _ I1 (q _ hn)) fun ws s2 ⟨ps, H2, I2, rel, q2⟩ => ?_)
  refine thn (store_run room rel I2 q2) fun _ s3 ⟨H3, I3, q3⟩ => ⟨.ref s.heap.objs.size, H3, I3, rfl, q3⟩
/-! ### xs.count(True) -/
def rCount : V → List V → Hp → VK → Prop := fun x vs H Q => ∃ (l : Addr) (bs : List Bool) (b : Bool), x = .ref l ∧ vs = [.bl b] ∧ H l = some (.lst (bs.map V.bl)) ∧ Q (.int (countIn (.bool b) (bs.map PyData.bool))) H
theorem reads_bls {h : Heap} : ∀ {bs : List Bool} {vs : List Value}, Vals (bs.map V.bl) vs → ReadsAll h vs (bs.map PyData.bool) []
  | [], _, .nil => .nil
  | b :: bs, _ :: _, .cons r t => by
    cases r
    have := ReadsAll.cons (Reads.bool (h := h) b) (reads_bls (h := h) t)
    exact this
theorem mt_count : MtM X "list.count" rCount := by
  intro pins s σ H x vs v us Q I rx rv h
  obtain ⟨l, bs, b, rfl, rfl, hH, q⟩ := h
  cases rx
  obtain ⟨u, rfl, ru⟩ := rv.one
  cases ru
  obtain ⟨z, its, n, r, hl, e⟩ := I.lstM hH
  refine count_list_bools (vs := its) (xs := bs.map PyData.bool) (as := []) (hp := s.heap) (IsL.isList e) (reads_bls r) ?_ ?_
  · rw [List.all_eq_true]
    intro d hd
    obtain ⟨c, _, rfl⟩ := List.mem_map.mp hd
    rfl
  · exact ⟨.int _, H, I.tok _, ⟨_, rfl⟩, q⟩
end
end HX

/-! N26: {k: v, ..}, o.append(e), o.count(True). -/
namespace NL
open PySem PySem.Spec PyProof.Rows L2
variable {tb : List Addr} {K : PySem.W.Frag} {H H' H1 H2 : Hp} {ms ms' ex ex' : List Addr} {M M' M1 : MM} {d : Addr}
/-! ### {k: v, ..} -/
def mPairs : List (FE × FE) → En → MM → Option (List (D × D) × MM)
  | [], _, M => some ([], M)
  | (fk, fe) :: ps, r, M => match fk r M with
    | some (k, M1) => match fe r M1 with
      | some (v, M2) => match mPairs ps r M2 with
        | some (kvs, M3) => some ((k, v) :: kvs, M3)
        | none => none
      | none => none
    | none => none
def stO : D → List (D × D) → Option D
  | o, [] => some o
  | o, (k, v) :: r => match putO o k v with
    | some o' => stO o' r
    | none => none
def mDisp (o0 : D) (ps : List (FE × FE)) : FE := fun r M => match mPairs ps r M with
  | some (kvs, M1) => match stO o0 kvs with
    | some o => some (o, M1)
    | none => none
  | none => none
def trsM (tb : List Addr) (K : PySem.W.Frag) (ps : List (FE × FE)) : List (TE × TE) := ps.map fun p => (eM tb K p.1, eM tb K p.2)
inductive RP (K : PySem.W.Frag) (H : Hp) (ms ex : List Addr) : List (V × V) → List (D × D) → Prop
  | nil : RP K H ms ex [] []
  | cons {x y : V} {k v : D} {ps : List (V × V)} {kvs : List (D × D)} : RV K H ms ex x k → RV K H ms ex y v → RP K H ms ex ps kvs → RP K H ms ex ((x, y) :: ps) ((k, v) :: kvs)
theorem RP.up {H H' : Hp} {ms ms' ex ex' : List Addr} (f : ∀ {v : V} {c : D}, RV K H ms ex v c → RV K H' ms' ex' v c) : ∀ {ps : List (V × V)} {kvs : List (D × D)}, RP K H ms ex ps kvs → RP K H' ms' ex' ps kvs
  | _, _, .nil => .nil
  | _, _, .cons a b c => .cons (f a) (f b) (RP.up f c)
theorem pairs_use {σ : L2.St} {r : En} : ∀ {ps : List (FE × FE)} {H : Hp} {M M' : MM} {kvs : List (D × D)} {Q : List (V × V) → Hp → Prop}, RM tb K H ms ex M → Sl K H ms ex σ r → mPairs ps r M = some (kvs, M') →
    (∀ H' pvs, Ext ms H H' → RM tb K H' ms ex M' → RP K H' ms ex pvs kvs → Q pvs H') → tPairs (trsM tb K ps) σ H Q
  | [], H, M, M', kvs, Q, m, s, e, q => by
    cases e
    exact q H [] (Ext.refl H) m .nil
  | (fk, fe) :: ps, H, M, M', kvs, Q, m, s, e, q => by
    unfold mPairs at e
    split at e
    · rename_i k M1 h1
      split at e
      · rename_i v M2 h2
        split at e
        · rename_i rest M3 h3
          cases e
          show eM tb K fk σ H _
          refine eM.use m s h1 fun H1 v1 x1 m1 s1 r1 => ?_
          refine eM.use m1 s1 h2 fun H2 v2 x2 m2 s2 r2 => ?_
          refine pairs_use m2 s2 h3 fun H3 pvs x3 m3 rp => ?_
          exact q H3 _ ((x1.trans x2).trans x3) m3 (.cons ((r1.ext m1 x2).ext m2 x3) (r2.ext m2 x3) rp)
        · cases e
      · cases e
    · cases e
theorem store_use {p : Addr} : ∀ {pvs : List (V × V)} {kvs : List (D × D)} {o o' : D} {H0 H : Hp} {Q : Hp → Prop}, H0 p = none → Ext ms H0 H → RM tb K H ms (p :: ex) M → RP K H ms (p :: ex) pvs kvs → Raw K H ms (p :: ex) p o → stO o kvs = some o' →
    (∀ H', Ext ms H0 H' → RM tb K H' ms (p :: ex) M → Raw K H' ms (p :: ex) p o' → Q H') → HX.tStore p pvs H Q
  | _, _, o, o', H0, H, Q, hp, x, m, .nil, raw, e, q => by
    cases e
    exact q H x m raw
  | _, _, o, o', H0, H, Q, hp, x, m, .cons a b c, raw, e, q => by
    unfold stO at e
    split at e
    · rename_i o2 hput
      obtain ⟨u, put, nt, mk⟩ := putO_ok raw a b hput
      have th : Thing (upd H p u) p := by
        rcases put with ⟨kvs, k, e1, _, _, e2⟩ | ⟨kvs, k, b, e1, _, _, _, e2⟩
        · exact .inr (.inl ⟨_, by rw [e2]; exact upd_same⟩)
        · exact .inr (.inr ⟨_, by rw [e2]; exact upd_same⟩)
      obtain ⟨lg, mg⟩ := lock_growO (o := u) m th
      exact ⟨_, put, store_use hp (x.grow hp) mg (c.up lg) (mk lg) e q⟩
    · cases e
section
variable {X : Cx} {pos apos cpos : Pos} {o e : Expr} {fo fe : FE} {keys : List (Option Expr)} {values : List Expr} {ps : List (FE × FE)}
theorem me_disp {o0 : D} {u0 : HO} (n0 : New0 u0 o0) (room : X.A.units + 1 < cLine) (h : PPs X pos keys values (trsM tb X.K ps)) (hall : keys.all (·.isSome) = true := by rfl) (hl : keys.length = values.length := by rfl) (h0 : keys ≠ [] := by simp) (h15 : keys.length ≤ 15 := by decide) :
    PE X (.Dict keys values pos) (eM tb X.K (mDisp o0 ps)) :=
  (HX.pe_dispX n0.fresh room h hall hl h0 h15).weak fun σ H Q h => by
    obtain ⟨ms, ex, r, M, o, M', m, s, e, q⟩ := h
    unfold mDisp at e
    split at e
    · rename_i kvs M1 h1
      split at e
      · rename_i o' h2
        cases e
        intro p hp
        have x0 := Ext.of (same_new (o := u0) hp) (ms := ms)
        have th0 : Thing (upd H p u0) p := (n0.raw (K := X.K) (ms := ms) (ex := ex)).thing
        have m0 := lock_newO m hp th0
        have s0 : Sl X.K (upd H p u0) ms (p :: ex) σ r := s.lock m hp x0
        refine pairs_use m0 s0 h1 fun H1 pvs x1 m1 rp => ?_
        have raw1 : Raw X.K H1 ms (p :: ex) p o0 := (n0.raw (K := X.K) (ms := ms) (ex := p :: ex)).of (fun u z t => x1 p u z (fresh_ms m hp).1 t) fun z => z.ext m0 x1
        refine store_use hp (x0.trans x1) m1 rp raw1 h2 fun H2 x2 m2 raw => ?_
        obtain ⟨m3, r3⟩ := raw_out m2 (fresh_ms m hp).2 raw
        exact q H2 _ x2 m3 r3
      · cases e
    · cases e
theorem pps_m {fk fe : FE} {k v : Expr} {ks : List (Option Expr)} {vs : List Expr} (hk : PE X k (eM tb X.K fk)) (hv : PE X v (eM tb X.K fe)) (hr : PPs X pos ks vs (trsM tb X.K ps)) : PPs X pos (some k :: ks) (v :: vs) (trsM tb X.K ((fk, fe) :: ps)) := pps_cons hk hv hr
/-! ### o.append(e) -/
def mAppE (fo fe : FE) : FE := fun r M => match fo r M with
  | some (.mu n, M1) => match M1[n]? with
    | some (.lst _) => match fe r M1 with
      | some (c, M2) => match mApp M2 (.mu n) c with
        | some N => some (.non, N)
        | none => none
      | none => none
    | _ => none
  | _ => none
theorem me_append {i : Expr} {fi : FE} (ho : PE X o (eM tb X.K fo)) (hi : PE X i (eM tb X.K fi)) (hbase : attributeBase o "append" X.env (eval o X.env) = eval o X.env := by rfl)
    (hfew : ((backTo cpos (starEach [i] X.env)).all (fun x => !x.1) && (backToKw cpos (keywordEach [] X.env)).all (fun x => x.1.isSome) && decide (([i] : List Expr).length + ([] : List Keyword).length + (if ([] : List Keyword).isEmpty then 0 else 1) < 30)) = true := by rfl)
    (hline : (apos.endLine == cpos.line) = true := by rfl) (hst : starEach [i] X.env = (false, eval i X.env) :: starEach [] X.env := by rfl) :
    PE X (.Call (.Attribute o "append" apos) [i] [] cpos) (eM tb X.K (mAppE fo fi)) :=
  (pe_bm PySem.F.plainAttrs_list PySem.F.slot_list_append PySem.F.type_list_append mt_append ho (pa_cons hi pa_nil hst) hbase hfew hline hst rfl).weak fun σ H Q h => by
    obtain ⟨ms, ex, r, M, d', M', m, s, e, q⟩ := h
    unfold mAppE at e
    split at e
    · rename_i k M1 h1
      split at e
      · rename_i ys h0
        split at e
        · rename_i c2 M2 h2
          split at e
          · rename_i N h3
            cases e
            refine eM.use m s h1 fun H1 v1 x1 m1 s1 r1 => ?_
            have r1' := r1
            cases r1' with
            | mu e0 =>
              constructor
              · cases m1.at_ _ _ _ e0 h0 with
                | lst sq _ => exact .inl ⟨rfl, _, SqL.of sq⟩
              refine eM.use m1 s1 h2 fun H2 v2 x2 m2 s2 r2 => ?_
              exact app_ok m2 (r1.ext m1 x2) r2 h3 fun H3 x3 m3 => q H3 _ ((x1.trans x2).trans x3) m3 .non
          · cases e
        · cases e
      · cases e
    · cases e
/-! ### o.count(True) -/
def mCountE (fo fe : FE) : FE := fun r M => match fo r M with
  | some (.lst ds, M1) => match fe r M1 with
    | some (.bl b, M2) => match boolsOf ds with
      | some bs => some (.int (countIn (.bool b) (bs.map PyData.bool)), M2)
      | none => none
    | _ => none
  | _ => none
theorem me_count {i : Expr} {fi : FE} (ho : PE X o (eM tb X.K fo)) (hi : PE X i (eM tb X.K fi)) (hbase : attributeBase o "count" X.env (eval o X.env) = eval o X.env := by rfl)
    (hfew : ((backTo cpos (starEach [i] X.env)).all (fun x => !x.1) && (backToKw cpos (keywordEach [] X.env)).all (fun x => x.1.isSome) && decide (([i] : List Expr).length + ([] : List Keyword).length + (if ([] : List Keyword).isEmpty then 0 else 1) < 30)) = true := by rfl)
    (hline : (apos.endLine == cpos.line) = true := by rfl) (hst : starEach [i] X.env = (false, eval i X.env) :: starEach [] X.env := by rfl) :
    PE X (.Call (.Attribute o "count" apos) [i] [] cpos) (eM tb X.K (mCountE fo fi)) :=
  (pe_bm PySem.F.plainAttrs_list PySem.F.slot_list_count PySem.F.type_list_count HX.mt_count ho (pa_cons hi pa_nil hst) hbase hfew hline hst rfl).weak fun σ H Q h => by
    obtain ⟨ms, ex, r, M, d', M', m, s, e, q⟩ := h
    unfold mCountE at e
    split at e
    · rename_i ds M1 h1
      split at e
      · rename_i b M2 h2
        split at e
        · rename_i bs h3
          cases e
          have := boolsOf_eq h3
          subst this
          refine eM.use m s h1 fun H1 v1 x1 m1 s1 r1 => ?_
          refine ⟨?_, ?_⟩
          · cases r1 with
            | lst sq _ _ _ => exact .inl ⟨rfl, _, SqL.of sq⟩
          refine eM.use m1 s1 h2 fun H2 v2 x2 m2 s2 r2 => ?_
          cases r1.ext m1 x2 with
          | lst sq n1 n2 rr =>
            have := rr.bools
            subst this
            cases r2
            exact ⟨_, bs, b, rfl, rfl, sq, q H2 _ (x1.trans x2) m2 (.int _)⟩
        · cases e
      · cases e
    · cases e
end
end NL

/-! HX6: tuple(e for x in s if ..), what comes told by what is true of it. -/
namespace HX
open PySem PySem.Spec PyProof.Rows L2 GxR
section
variable {X : Cx}
def tTupH (X : Cx) (scope : Scope) (x : Str) (ifs : List Expr) (elt : Expr) (T : Addr) (te : TE) : TE := fun σ H Q => te σ H fun v H1 => TabG H1 T ∧ ∃ (n : Nat) (pz : Nat → Bool) (Ok : (Nat → V) → Prop), n ≤ sizeLine ∧
  (∀ pins s u, Inv X pins σ H1 s → RelV v u → ∃ (f : Nat → V) (Pv : Nat → Value → Prop), Ok f ∧ Source X.prog X.w s T u n Pv ∧ Quiet X scope x ifs elt s T Pv pz f) ∧ ∀ f, Ok f → ∀ H2 p, Tabbed T H1 H2 → H2 p = none → Q (.ref p) (upd H2 p (.tup ((passing pz n 0).map f)))
theorem pe_tupH {c T : Addr} {elt iter : Expr} {ifs : List Expr} {x : Str} {px p pos gpos : Pos} {scope : Scope} {te : TE} {k : Nat} (hr : Room k X.A) (hg : Gl X "tuple") (hm : X.mg "tuple" = none) (TB : TabB X.base X.mg c T) (hcode : X.env.code = .ref c) (S : GenS X.env scope x) (hi : PE X iter te)
    (fold : ∀ v, genFold iter X.env v = pure v)
    (he : starEach [.GeneratorExp elt [⟨.Name x px, iter, ifs, 0⟩] scope gpos] X.env = (false, eval (.GeneratorExp elt [⟨.Name x px, iter, ifs, 0⟩] scope gpos) X.env) :: starEach [] X.env := by rfl) :
    PE X (.Call (.Name "tuple" p) [.GeneratorExp elt [⟨.Name x px, iter, ifs, 0⟩] scope gpos] [] pos) (tTupH X scope x ifs elt T te) := by
  refine ⟨fun pins s σ H Q I h => ?_⟩
  refine Call_ (ld_blt I hg hm PyProof.Rows.boot_tuple (PyProof.Rows.callWith_type1 (PyProof.Rows.args_cons ?_ he) he rfl))
  refine wpAny_GeneratorExp_walksQD hr.hd S.co (closure_ok S.free) S.cell S.dot S.loc S.kind (by have := hr.dp; omega) ?_ fold
  refine thn (hi.run pins s σ H _ I h) fun u s1 got => ?_
  obtain ⟨v, H1, I1, r1, ⟨ps, hT, ht⟩, n, pz, Ok, hn, hw, fin⟩ := got
  obtain ⟨f, Pv, okf, ⟨o, fp, St, iter1, W, st0, hfp⟩, quiet⟩ := hw pins s1 u I1 r1
  refine iter1 _ _ _ hr.hd ?_
  have atT : s1.heap.get? T = some { cls := .none, data := .fields ps } := I1.hok T _ hT
  have ltT : T < s1.heap.objs.size := Heap.lt_size atT
  have code2 : PySem.W.CodeHd (s1.heap.push o) c T := TB.code.keeps fun b z e => Heap.get?_push_of_some _ (I1.bk b z e)
  have atT2 : (s1.heap.push o).get? T = some { cls := .none, data := .fields ps } := Heap.get?_push_of_some _ atT
  have lim2 : (s1.heap.push o).NoLimit := I1.nolimit.push o
  refine ⟨lim2, ?_⟩
  refine code_any hcode (code2.code atT2 ht) (code2.tab atT2) ht fun code h3 tk more ext size3 atT3 ht3 => ?_
  obtain ⟨bm, ob, e1, e2, e3, e4, e5, e6, e7, e8⟩ := TB.bm
  have stays : ∀ b z, b ≠ T → s1.heap.get? b = some z → h3.get? b = some z := fun b z nb e => ext b z nb (Heap.get?_push_of_some _ e)
  have ltC : cStatics < s1.heap.objs.size := I1.nolimit.elim fun _ z => z.1.lt
  have neT : cStatics ≠ T := by
    obtain ⟨_, ns, _⟩ := I1.nolimit
    obtain ⟨o', es, ep, got, hd, _⟩ := ns
    intro e
    rw [e, atT] at got
    cases got
    cases hd
  have size2 : (s1.heap.push o).objs.size = s1.heap.objs.size + 1 := Heap.size_push ..
  refine wpAny_builtinsFor (m := X.mg) (by rw [I1.ok.glob]; exact ((I1.mod.glob.keeps I1.bk).push o).extBut ext TB.gP) e1 e2 (stays _ _ e4 (I1.bk _ _ e5)) e6 e7 e8 ?_
  have young : ∀ b ∈ s1.heap.objs.size :: fp, b ≠ T := by
    intro b hb
    rcases List.mem_cons.mp hb with z | z
    · rw [z]; exact (Nat.ne_of_lt ltT).symm
    · exact (hfp b z).2
  refine ⟨s1.heap.objs.size, s1.heap.objs.size :: fp, [s1.heap.objs.size], n, Pv, St, pz, fun i y => RelV (f i) y, rfl, W, ?_, ?_, lim2.extBut ext neT, ?_, ?_, ?_⟩
  · exact (W X.A hr.hd).frame _ _ _ st0 fun b hb z e => ext b z (young b hb) e
  · intro b hb
    have hb' : b < s1.heap.objs.size + 1 := by
      rcases List.mem_cons.mp hb with z | z
      · rw [z]; exact Nat.lt_succ_self _
      · exact Nat.lt_succ_of_lt (hfp b z).1
    exact Nat.lt_of_lt_of_le (size2 ▸ hb') size3
  · intro z
    exact absurd (List.mem_singleton.mp z) (Nat.ne_of_lt ltC)
  · intro href keep
    have kept : ∀ (s₂ : Shared), (∀ b ∈ List.range h3.objs.size, b ∉ [s1.heap.objs.size] → ∀ z, href.get? b = some z → s₂.heap.get? b = some z) → ∀ b z, b ≠ T → s1.heap.get? b = some z → s₂.heap.get? b = some z := by
      intro s₂ hk b z nb e
      have lt := Heap.lt_size e
      have e3 := stays b z nb e
      exact hk b (List.mem_range.mpr (Heap.lt_size e3)) (fun q => absurd (List.mem_singleton.mp q) (Nat.ne_of_lt lt)) z (keep b z e3)
    exact ⟨fun A' E' i y s₂ m₂ hA hd hu hy ns mx hk => (quiet _ A' E' i y s₂ m₂ rfl rfl (by rfl) hA hd hu hy ns mx (kept s₂ hk)).1,
      fun A' E' i y s₂ m₂ hA hd hu hy hp ns mx hk => (quiet _ A' E' i y s₂ m₂ rfl rfl (by rfl) hA hd hu hy ns mx (kept s₂ hk)).2 hp⟩
  · intro g h5 tk5 gs bare old5 size5 keep5 WS at0
    refine PyProof.Rows.args_nil ?_
    have few : (passing pz n 0).length ≤ sizeLine := by
      refine Nat.le_trans (List.length_filter_le _ _) ?_
      simpa using hn
    refine call_tuple_gen (hsz := few) WS.in4_3 (fun i s z => z.1.typeIs) at0 ?_ (List.mem_cons_self ..) fun s' acc hmv items => ?_
    · intro b hb
      have size5' : ({ s1 with heap := h5, gens := s1.gens.push gs, toks := tk5 } : Shared).heap.objs.size = g + 1 := size5
      rcases List.mem_cons.mp hb with z | z
      · rw [z]; exact size5' ▸ Nat.lt_succ_self _
      · rcases List.mem_cons.mp z with z | z
        · rw [z]; exact size5' ▸ Nat.lt_succ_of_lt old5
        · exact size5' ▸ Nat.lt_succ_of_lt (Nat.lt_trans (List.mem_range.mp z) old5)
    · have still : ∀ b z, s1.heap.get? b = some z → b ∉ h3.objs.size :: [s1.heap.objs.size] := by
        intro b z e q
        have lt := Heap.lt_size e
        rcases List.mem_cons.mp q with q | q
        · have lt3 : s1.heap.objs.size < h3.objs.size := Nat.lt_of_lt_of_le (size2 ▸ Nat.lt_succ_self _) size3
          exact absurd (q ▸ lt : (h3.objs.size : Nat) < s1.heap.objs.size) (Nat.not_lt.mpr (Nat.le_of_lt lt3))
        · exact absurd (List.mem_singleton.mp q) (Nat.ne_of_lt lt)
      have J := inv_tab (more := more) (h' := s'.heap) (g' := s'.gens) (d' := s'.drawn) (t' := s'.toks) I1 hT (fun b z nb e => hmv.heap b z (still b z e) (keep5 b z (stays b z nb e)))
        (hmv.heap T _ (still T _ atT) (keep5 T _ atT3)) (AllBare.movedS (I1.bare.push bare) hmv)
      rw [sh_eta s1 s' hmv.os] at J
      have rel := vals_items items
      have H2T : Tabbed T H1 (upd H1 T (.tbl (ps ++ more))) := ⟨⟨ps ++ more, upd_same, ht3⟩, fun b nb => upd_ne nb⟩
      have fresh := J.hok.fresh (Nat.le_refl s'.heap.objs.size)
      refine ⟨.ref s'.heap.objs.size, _, J.laid (t' := s'.toks) (o := .tup ((passing pz n 0).map f)) (fun b z e => Heap.get?_push_of_some _ e) (Nat.le_refl _) ?_, rfl, fin f okf _ _ H2T fresh⟩
      exact ⟨by rw [List.length_map]; exact few, acc.toList, rel, by rw [Array.toArray_toList]; exact IsTup.new _ _⟩
end
end HX

/-! N27: tuple(k for k in x.f if x.f[k] >> i & 1). -/
namespace NL
open PySem PySem.Spec PyProof.Rows L2
variable {tb : List Addr} {K : PySem.W.Frag} {H H' H1 H2 : Hp} {ms ms' ex ex' : List Addr} {M M' M1 : MM} {d : Addr}
def bitS (k i : Int) : Bool := Builtin.bitAnd (i.fdiv (2 ^ k.toNat)) 1 != 0
def intsD : List D → Option (List Int)
  | [] => some []
  | .int i :: ds => match intsD ds with
    | some is => some (i :: is)
    | none => none
  | _ :: _ => none
theorem intsD_eq : ∀ {ds : List D} {is : List Int}, intsD ds = some is → ds = is.map D.int
  | [], _, h => by cases h; rfl
  | .int i :: ds, is, h => by
    unfold intsD at h
    split at h
    · rename_i js h1
      cases h
      rw [intsD_eq h1]
      rfl
    · cases h
/-- the bit at a key -/
def bitK (ks : List (List Key)) (is : List Int) (k : Int) (j : Nat) : Bool := match look ks (is.map D.int) (ks.getD j []) with
  | some (.int i) => bitS k i
  | _ => false
/-- the keys whose bit stands -/
def heldK (ks : List (List Key)) (is : List Int) (k : Int) : List D := ((List.range ks.length).filter (bitK ks is k)).map fun j => keyT (ks.getD j [])
theorem look_in {κ : Type} [DecidableEq κ] {j : κ} : ∀ {ks : List κ} {is : List Int}, ks.length = is.length → j ∈ ks → ∃ i, look ks (is.map D.int) j = some (.int i)
  | [], _, _, h => by cases h
  | _ :: _, [], l, _ => by cases l
  | k :: ks, i :: is, l, h => by
    by_cases e : k = j
    · exact ⟨i, by unfold look; exact if_pos e⟩
    · obtain ⟨i', q⟩ := look_in (ks := ks) (is := is) (by simpa using l) ((List.mem_cons.mp h).elim (fun z => absurd z.symm e) id)
      refine ⟨i', ?_⟩
      show look (k :: ks) (D.int i :: is.map D.int) j = _
      unfold look
      rw [if_neg e]
      exact q
def mHeld (i j : Nat) (C : Addr) (f : Str) : FE := fun r M => match r[i]?, r[j]? with
  | some (some (.ins C' ns ds)), some (some (.int k)) => if C' = C ∧ 0 ≤ k then match look ns ds f with
      | some (.dt ks vs) => match intsD vs with
        | some is => if ks.length ≤ 1000 then some (.tup (heldK ks is k), M) else none
        | none => none
      | _ => none
    else none
  | _, _ => none
/-- what stands at s but the table, told to a later heap -/
theorem hok_but {P : Program} {w : World} {H : Hp} {h h' : Heap} {T : Addr} {ps : Array Value} (ok : HOk P w H h) (eT : H T = some (.tbl ps)) (keep : ∀ b o, b ≠ T → h.get? b = some o → h'.get? b = some o) : HOk P w (fun b => if b = T then none else H b) h' := by
  intro b o e
  have e : (if b = T then none else H b) = some o := e
  by_cases z : b = T
  · rw [if_pos z] at e
    cases e
  · rw [if_neg z] at e
    refine (ok b o e).stay (fun c u hc q => keep c u (fun y => ?_) q) (fun c hc => ?_) fun c xs hc => ?_
    · rcases hc with hc | hc
      · exact z (hc ▸ y)
      · rw [y, eT] at hc
        cases hc
    · show (if c = T then none else H c) = _
      rw [if_neg fun y => by rw [y, eT] at hc; cases hc]
      exact hc
    · show (if c = T then none else H c) = _
      rw [if_neg fun y => by rw [y, eT] at hc; cases hc]
      exact hc
section
variable {X : Cx} {c T a C dx od : Addr}
theorem held_rvs {ks : List (List Key)} {g : Nat → V} (h : ∀ (j : Nat) (k : List Key), ks[j]? = some k → ∃ q, g j = .ref q ∧ H q = some (.tup (k.map kV))) : ∀ {l : List Nat}, (∀ j ∈ l, j < ks.length) → RVs K H ms ex (l.map g) (l.map fun j => keyT (ks.getD j []))
  | [], _ => .nil
  | j :: l, hl => by
    have lt := hl j List.mem_cons_self
    have e : ks[j]? = some ks[j] := List.getElem?_eq_getElem lt
    obtain ⟨q, e1, e2⟩ := h j _ e
    have e3 : ks.getD j [] = ks[j] := by
      rw [List.getD_eq_getElem?_getD, e]
      rfl
    refine .cons ?_ (held_rvs h fun i hi => hl i (List.mem_cons_of_mem _ hi))
    show RV K H ms ex (g j) (keyT (ks.getD j []))
    rw [e1, e3]
    exact .tup e2 (rvs_keyB _)
theorem held_core {i j k : Nat} {x y z f : Str} {scope : Scope} {pq pd pe pf pg ph pi pj pk : Pos} {n1} {M : MM} {σ : L2.St} {r : En} {fds : List (Str × V)} {ob : Obj} {ks : List (List Key)} {is : List Int} {kk : Int} {Q : VK}
    (hr : Room k X.A) (hT : T ∈ tb) (TB : GxR.TabB X.base X.mg c T) (S : GxR.GenS X.env scope x) (cl : Cls X.K C) (na : NoAttr X.K C f)
    (hi : X.N[i]? = some y) (hj : X.N[j]? = some z) (vi : X.env.scope.names.lookup y = some .cell) (vj : X.env.scope.names.lookup z = some .cell)
    (fy : scope.names.lookup y = some .free) (fz : scope.names.lookup z = some .free)
    (dx' : (x == ("__debug__" : Str)) = false) (dy : (y == ("__debug__" : Str)) = false) (dz : (z == ("__debug__" : Str)) = false) (dy2 : (y == ("__classdict__" : Str)) = false) (dz2 : (z == ("__classdict__" : Str)) = false)
    (hb : ∀ env t, attributeBase (.Name y pd) f env t = t)
    (m : RM tb X.K H ms ex M) (s : Sl X.K H ms ex σ r) (e1 : σ[i]? = some (some (.ref a))) (e2 : H a = some (.ins C dx fds)) (e3 : fds.lookup f = some (.ref d)) (e4 : H d = some (.frz ob (.dT (ks.zip (is.map V.int))))) (hl : ks.length = is.length)
    (e5 : σ[j]? = some (some (.int kk))) (hk : 0 ≤ kk) (few : ks.length ≤ 1000) (q : ∀ H' v, Ext ms H H' → RM tb X.K H' ms ex M → RV X.K H' ms ex v (.tup (heldK ks is kk)) → Q v H') :
    HX.tTupH X scope x [.BinOp (.BinOp (.Subscript (.Attribute (.Name y pd) f pe) (.Name x pf) pg) .RShift (.Name z ph) pi) .BitAnd (.Constant (.int 1) n1 pj) pk] (.Name x pq) T (tFld X.K (tVar i) f) σ H Q := by
  refine ⟨_, e1, a, C, dx, fds, _, rfl, e2, cl, na, e3, m.tbs T hT, ks.length, bitK ks is kk, fun g => ∀ (j : Nat) (k : List Key), ks[j]? = some k → ∃ q, g j = .ref q ∧ H q = some (.tup (k.map kV)), ?_, fun pins s u I ru => ?_, fun g okg H2 p t2 hp => ?_⟩
  · have := small1000 few
    omega
  · have eu : u = .ref d := ru
    subst eu
    obtain ⟨ps, eT, tT⟩ := m.tbs T hT
    obtain ⟨hs, hgd, hx, es, ep, hdt, hsz, ent⟩ := I.frzT e4
    have hsz' : es.size = ks.length := by
      rw [hsz, List.length_zip, List.length_map, ← hl]
      simp
    have ent' : ∀ (j : Nat) (k : List Key), ks[j]? = some k → ∃ (en : DictEntry) (q : Addr), es[j]? = some en ∧ en.key = .ref q ∧ H q = some (.tup (k.map kV)) := fun j k e => by
      have lt : j < ks.length := (List.getElem?_eq_some_iff.mp e).1
      have lt2 : j < (ks.zip (is.map V.int)).length := by
        rw [List.length_zip, List.length_map, ← hl]
        simpa using lt
      have e' : (ks.zip (is.map V.int))[j]? = some (k, (ks.zip (is.map V.int))[j].2) := by
        rw [List.getElem?_eq_getElem lt2]
        have := zip_key (List.getElem?_eq_getElem lt2)
        rw [e] at this
        rw [Option.some.inj this]
      exact ent j k _ e'
    have atT : s.heap.get? T = some { cls := .none, data := .fields ps } := I.hok T _ eT
    have neD : d ≠ T := fun z => by
      rw [z, eT] at e4
      cases e4
    refine ⟨fun j => match es[j]? with | some en => (match en.key with | .ref q => V.ref q | _ => V.non) | none => V.non, fun j v => ∃ hi : j < es.size, v = es[j].key, fun j k e => ?_, ⟨_, [d], fun i h => h.IsKeyIter s.heap.objs.size d i es.size ep ∧ h.DictRaw d es ep, fun A E Q hA h => iter_keys hs hgd hx hdt h, fun A' hA => (by rw [← hsz']; exact PySem.Walks.rawKeys hA _ d (Nat.ne_of_lt (Heap.lt_size hgd)) es ep), ⟨⟨_, Heap.get?_push_size _ rfl, rfl, rfl⟩, ⟨ob, Heap.get?_push_of_some _ hgd, hx, hdt⟩⟩, fun b hb => ?_⟩, ?_⟩
    · obtain ⟨en, q, h1, h2, h3⟩ := ent' j k e
      exact ⟨q, by simp only [h1, h2], h3⟩
    · have : b = d := by simpa using hb
      rw [this]
      exact ⟨Heap.lt_size hgd, neD⟩
    · intro env A' E' j' yv s₂ m₂ hsc hce hgl hA hd hu hP ns mx keep
      obtain ⟨hlt, eyv⟩ := hP
      have lt : j' < ks.length := hsz' ▸ hlt
      obtain ⟨en, qa, h1, h2, h3⟩ := ent' j' ks[j'] (List.getElem?_eq_getElem lt)
      have een : es[j'] = en := by
        rw [Array.getElem?_eq_getElem hlt] at h1
        exact Option.some.inj h1
      rw [een, h2] at eyv
      subst eyv
      have hkf : env.scope.kind = .function := by rw [hsc]; exact S.kind
      have kof : ∀ n, env.kindOf n = scope.names.lookup n := fun n => by rw [← hsc]; rfl
      have neK : ∀ b o, X.base.get? b = some o → b ≠ T := fun b o eb z => by
        have := (I.bs b o eb).2
        rw [z, eT] at this
        cases this
      have KX : X.K.In s₂.heap := fun b o eb => keep b o (neK b o (I.ok.mod.kin b o eb)) (I.kIn b o eb)
      have ok2 := hok_but I.hok eT keep
      have at' : ∀ {b : Addr} {o : HO}, H b = some o → (∀ ps, o ≠ .tbl ps) → (fun b => if b = T then none else H b) b = some o := fun {b o} e n => by
        show (if b = T then none else H b) = _
        rw [if_neg fun z => by rw [z, eT] at e; exact n _ (Option.some.inj e).symm]
        exact e
      obtain ⟨ml, _, look⟩ := I.loc
      have cellOf : ∀ {j : Nat} {n : Str} {v : V}, X.N[j]? = some n → σ[j]? = some (some v) → X.env.scope.names.lookup n = some .cell → scope.names.lookup n = some .free → ∃ cc vv, RelV v vv ∧ env.cells.lookup n = some cc ∧ s₂.heap.IsCell cc (some vv) := by
        intro j n v w1 w2 w3 w4
        obtain ⟨vv, r1, l⟩ := look j n v w1 w2 (.inr (.inl w3))
        rcases l with ⟨l, _⟩ | ⟨_, cc, hc, hcell⟩
        · have l : X.env.scope.names.lookup n = some .local := l
          rw [w3] at l
          cases l
        · obtain ⟨o, ho, hdo⟩ := hcell
          refine ⟨cc, vv, r1, ?_, o, keep cc o (fun z => ?_) ho, hdo⟩
          · rw [hce]
            exact NdefX.clo_has S.free (PySem.mem_of_lookup w4) hc
          · rw [z, atT] at ho
            cases ho
            cases hdo
      obtain ⟨cy, vy, ry, ly, cely⟩ := cellOf hi e1 vi fy
      obtain ⟨cz, vz, rz, lz, celz⟩ := cellOf hj e5 vj fz
      have evy : vy = .ref a := ry
      subst evy
      obtain ⟨tz, rfl⟩ := rz
      have gx : ∀ {pos : Pos} {Q' : Value → Shared → Prop} {s3 : Shared}, s3.heap = s₂.heap → Q' (.ref qa) s3 → wpAny (model X.prog X.w) A' (eval (.Name x pos) env) Q' E' s3 := fun eh hq =>
        wpAny_Name (wpAny_loadName_local hkf ((kof x).trans S.loc) (by rw [eh]; exact ns) mx hq) dx'
      constructor
      · rw [List.forIn_cons]
        refine wpAny_bind ?_
        rw [if_pos rfl]
        refine wpAny_bind (isTrue_plain ?_)
        refine wpAny_BinOp (wpAny_BinOp ?_)
        refine Subscript_ (attr_of (hb _ _) (wpAny_Name (wpAny_loadName_free hkf ((kof y).trans fy) ly cely ?_ dy2) dy))
        obtain ⟨mA, O, rA, _, _, _⟩ := ins_get ok2 (at' e2 fun _ z => by cases z)
        obtain ⟨u', hu', ru'⟩ := RelO.some_of (v := .ref d) (o := mA f) (by rw [← e3]; exact rA f)
        have eu' : u' = .ref d := ru'
        subst eu'
        refine get_map KX O (cl.get f) cl.hd na hu' (handed_of (v := .ref d) rfl) ?_
        refine gx rfl ?_
        obtain ⟨_, _, xs, rel, dd⟩ := dt_rd ok2 (.inr ⟨ob, at' e4 fun _ z => by cases z⟩)
        have kin : ks[j'] ∈ ks := List.getElem_mem lt
        obtain ⟨iv, hlook⟩ := look_in hl kin
        have ro := look_ok (K := X.K) (H := H) (ms := ms) (ex := ex) (ks := ks) (ds := is.map D.int) ks[j'] (by rw [List.length_map]; exact hl) (RVs.of_ints is)
        rw [hlook] at ro
        have hval : valV (ks.zip (is.map V.int)) ks[j'] = some (.int iv) := by
          cases hv : valV (ks.zip (is.map V.int)) ks[j'] with
          | none => rw [hv] at ro; cases ro
          | some w => rw [hv] at ro; cases ro; rfl
        obtain ⟨w, hw, rw'⟩ := RelO.some_of (v := .int iv) (hval ▸ KT.val rel ks[j'])
        obtain ⟨p, hp, rfl⟩ := Option.map_eq_some_iff.mp hw
        obtain ⟨tv, etv⟩ := rw'
        have hob : s₂.heap.get? d = some ob := keep d ob neD hgd
        refine subscriptTail_builtinR (x := p.2) ⟨ob, hob, hx.1⟩ PySem.F.slot_dict_getitem.lookup (wpAny_getItem_heap (tupleKind_room_in1 (by have := hr.un; omega)) (key_of ok2 (at' h3 fun _ z => by cases z)) dd hp ⟨rfl, ?_⟩) rfl
        rw [etv]
        refine wpAny_Name (wpAny_loadName_free hkf ((kof z).trans fz) lz celz ?_ dz2) dz
        refine rshift_int hk (wpAny_Constant_int (and_int (PyProof.Rows.truthy_int (wpAny_pure ?_))))
        show wpAny _ _ (forIn [] _ _) _ _ _
        rw [List.forIn_nil]
        refine wpAny_pure ⟨?_, s₂.heap, _, rfl, fun _ _ e => e⟩
        have e3' : ks.getD j' [] = ks[j'] := by
          rw [List.getD_eq_getElem?_getD, List.getElem?_eq_getElem lt]
          rfl
        unfold bitK
        rw [e3', hlook]
        rfl
      · intro _
        refine gx rfl ⟨?_, GxR.keeps_refl _⟩
        simp only [h1, h2]
        rfl
  · obtain ⟨x2, m2⟩ := tabbed_ext m hT t2
    have ri : RVs X.K H ms ex ((passing (bitK ks is kk) ks.length 0).map g) (heldK ks is kk) := held_rvs okg fun j hj => by
      have : j ∈ (List.range ks.length).filter (bitK ks is kk) := hj
      simpa using (List.mem_filter.mp this).1
    obtain ⟨x3, m3, r3⟩ := new_tup m2 hp (ri.ext m x2)
    exact q _ _ (x2.trans x3) m3 r3
theorem me_held {i j k : Nat} {x y z f : Str} {scope : Scope} {pa pb pc pq pd pe pf pg ph pi pj pk gpos pos p : Pos} {n1}
    (hr : Room k X.A) (hg : Gl X "tuple") (hm : X.mg "tuple" = none) (TB : GxR.TabB X.base X.mg c T) (hT : T ∈ tb) (hcode : X.env.code = .ref c) (S : GxR.GenS X.env scope x) (cl : Cls X.K C) (na : NoAttr X.K C f)
    (hi : X.N[i]? = some y) (hj : X.N[j]? = some z) (vi : X.env.scope.names.lookup y = some .cell) (vj : X.env.scope.names.lookup z = some .cell)
    (fy : scope.names.lookup y = some .free) (fz : scope.names.lookup z = some .free)
    (dx' : (x == ("__debug__" : Str)) = false) (dy : (y == ("__debug__" : Str)) = false) (dz : (z == ("__debug__" : Str)) = false) (dy2 : (y == ("__classdict__" : Str)) = false) (dz2 : (z == ("__classdict__" : Str)) = false)
    (hb : ∀ env t, attributeBase (.Name y pd) f env t = t) (hb2 : attributeBase (.Name y pb) f X.env (eval (.Name y pb) X.env) = eval (.Name y pb) X.env)
    (fold : ∀ v, genFold (.Attribute (.Name y pb) f pc) X.env v = Pure.pure v) :
    PE X (.Call (.Name "tuple" p) [.GeneratorExp (.Name x pq) [⟨.Name x pa, .Attribute (.Name y pb) f pc,
      [.BinOp (.BinOp (.Subscript (.Attribute (.Name y pd) f pe) (.Name x pf) pg) .RShift (.Name z ph) pi) .BitAnd (.Constant (.int 1) n1 pj) pk], 0⟩] scope gpos] [] pos) (eM tb X.K (mHeld i j C f)) := by
  have base := HX.pe_tupH (pos := pos) (p := p) (gpos := gpos) (px := pa) (elt := .Name x pq) (ifs := [.BinOp (.BinOp (.Subscript (.Attribute (.Name y pd) f pe) (.Name x pf) pg) .RShift (.Name z ph) pi) .BitAnd (.Constant (.int 1) n1 pj) pk]) hr hg hm TB hcode S (pe_fld (pos := pc) (pe_var (pos := pb) hi (.inr (.inl vi)) dy dy2) hb2) fold
  refine (pe_or (pe_lock base) base).weak fun σ H Q h => ?_
  obtain ⟨ms, ex, r, M, o, M', m, s, e, q⟩ := h
  unfold mHeld at e
  split at e
  · rename_i C' ns ds kk h1 h2
    split at e
    · rename_i hc
      obtain ⟨ec, hk⟩ := hc
      subst ec
      split at e
      · rename_i ks vs h3
        split at e
        · rename_i is h4
          split at e
          · rename_i few
            cases e
            obtain ⟨v1, g1, rv1⟩ := s.at_ i _ h1
            obtain ⟨v2, g2, rv2⟩ := s.at_ j _ h2
            cases rv2
            cases rv1 with
            | ins q1 n1' n2' l rr =>
              rename_i a dx xs
              obtain ⟨w, hw, rw'⟩ := lookup_ok rr h3
              have evs := intsD_eq h4
              subst evs
              cases rw' with
              | dt q2 n3 n4 l2 rr2 =>
                have := rr2.ints
                subst this
                have hl : ks.length = is.length := by rw [l2, List.length_map]
                rename_i d
                have ne : a ≠ d := fun z => by
                  rw [z] at q1
                  rcases q2 with q2 | ⟨o, q2⟩
                  · rw [q1] at q2
                    cases q2
                  · rw [q1] at q2
                    cases q2
                rcases q2 with q2 | ⟨od, q2⟩
                · refine .inl ⟨d, _, q2, trivial, fun od => ?_⟩
                  have lk := like_lock (H := H) (o := od) n3 n4 q2
                  refine held_core (Q := fun v H' => H' d = some (.frz od (.dT (ks.zip (is.map V.int)))) ∧ Q v (upd H' d (.dT (ks.zip (is.map V.int))))) hr hT TB S cl na hi hj vi vj fy fz dx' dy dz dy2 dz2 hb (RM.like lk m) (Sl.like lk s) g1 ((upd_ne ne).trans q1) hw upd_same hl g2 hk few fun H' v x m' rv => ?_
                  obtain ⟨e2, x3⟩ := ext_locked n3 q2 x
                  have fr := like_free n3 n4 e2
                  exact ⟨e2, q _ v x3 (RM.like fr m') (RV.like fr rv)⟩
                · exact .inr (held_core hr hT TB S cl na hi hj vi vj fy fz dx' dy dz dy2 dz2 hb m s g1 q1 hw q2 hl g2 hk few fun H' v x m' rv => q H' v x m' rv)
          · cases e
        · cases e
      · cases e
    · cases e
  · cases e
end
end NL

/-! N28: C(..) by a level of its own; y = {}, [], {..} made anew. -/
namespace NL
open PySem PySem.Spec PyProof.Rows L2
variable {tb : List Addr} {K : PySem.W.Frag} {H H' H1 H2 : Hp} {ms ms' ex ex' : List Addr} {M M' M1 : MM}
variable {X : Cx} {pos : Pos} {a : Expr} {es : List Expr} {f : FE} {fa : FA}
def mkC (C : Addr) (ns : List Str) : FC := fun ds M => if ns.length = ds.length then some (.ins C ns ds, M) else none
theorem me_mkB {CX : CXT} {k : Nat} {C fi : Addr} {fd : FuncData} {ps ns : List Str} {x : Str} {p : Pos} {gc : FC} {E : XK} (mk : Mk X.K C fi) (F : FnOk X.prog X.w X.K X.mg X.base CX 1 fi fd ps (spI C ns)) (ok : ∀ ds M r, gc ds M = some r → 2 ≤ k ∧ mkC C ns ds M = some r) (hr : Room k X.A) (hg : Gl X x) (hm : X.mg x = some (.ref C))
    (hb : Binds X.K fd ps []) (hx : Passes CX X E) (ha : PA X (a :: es) (aM tb X.K fa)) (hdb : (x == ("__debug__" : Str)) = false := by decide)
    (he : starEach (a :: es) X.env = (false, eval a X.env) :: starEach es X.env := by rfl) (hpl : (backTo pos (starEach es X.env)).any (·.1) = false := by rfl) : PE X (.Call (.Name x p) (a :: es) [] pos) (eM tb X.K (mCall gc fa)) := by
  by_cases h2 : 2 ≤ k
  · refine (pe_make mk F (hr.mono h2) hg hm hb .nil hx ha hdb he hpl).weak fun σ H Q h => ?_
    obtain ⟨ms, ex, r, M, d', M', m, s, e, q⟩ := h
    refine mt_make ⟨ms, ex, r, M, d', M', m, s, ?_, q⟩
    unfold mCall at e
    unfold mMake
    split at e
    · rename_i ds M1 h1
      first
        | exact (ok _ _ _ e).2
        | (rw [h1]; exact (ok _ _ _ e).2)
    · cases e
  · constructor
    intro pins s σ H Q I h
    obtain ⟨ms, ex, r, M, d', M', m, sl, e, q⟩ := h
    unfold mCall at e
    split at e
    · exact absurd (ok _ _ _ e).1 h2
    · cases e
theorem mss_new {i : Nat} {x : Str} {px : Pos} {sts : List Stmt} {g : FS} (hN : X.N.Nodup) (hi : X.N[i]? = some x) (hx : Loc X.env.scope x) (ha : PE X a (nM tb X.K f)) (hk : PSs X sts (sM tb X.K g))
    (hf : X.fn x = true ∨ X.env.scope.names.lookup x = some .local := by first | exact .inl rfl | exact .inr rfl | assumption)
    (hs : swapsWithSole [.Name x px] a pos.line X.env = Pure.pure false := by rfl) (hw : swappedStores [.Name x px] a X.env = Pure.pure none := by rfl)
    (h1 : (assignEach [.Name x px] X.env).map (·.2) = [assign (.Name x px) X.env] := by rfl) : PSs X (.Assign [.Name x px] a pos :: sts) (sM tb X.K (mNew i f g)) :=
  (pss_cons (ps_asg ha (pg_name hN hi hx hf) hs hw h1) hk).weak fun _ _ _ h => mt_new h
theorem nm_dic : PE X (.Dict [] [] pos) (nM tb X.K (mNewD (.dt [] []))) := pe_dnewT.weak fun _ _ _ h => nt_dic .t h
end NL

/-! HX7: x = {k: v for ..}, x a local of a def. -/
namespace HX
open PySem PySem.Spec PyProof.Rows L2
section
variable {X : Cx}
theorem dx_core {pins : List (Addr × Obj)} {s : Shared} {σ : L2.St} {H : Hp} {Q : VK} {use : Option (Value → Sem Unit)} {Qf : Value → Shared → Prop} {o0 : HO} (fr : Fresh o0) {kx vx tg iter : Expr} {ifs : List Expr} {scope : Scope} {own : List (Str × Nat)} {pos pos' : Pos} {wi : TI} {g : TG} {tt : TT} {tk tv : TE} (calm : X.calm = true) (room : X.A.units + 1 < cLine) (nd : X.N.Nodup) (I : Inv X pins σ H s) (hi : PI X tg iter wi) (ok : BlkOk X.N X.env.scope scope own)
    (pt : PartsX X scope tg kx vx ifs g tt tk tv) (fold : ∀ x, foldedSetIterable iter X.env x = pure x) (h : tDx o0 wi g tt tk tv (own.map (·.2)) σ H Q)
    (hRR : ∀ D C s' m H', Inv X pins σ H' s' → Q (.ref D) H' → s'.heap.Ns C m → FpOk X pins H' C → compPost (model X.prog X.w) X.A X.xe use Qf (.ref D) C (.ok .next) s') :
    wpAny (model X.prog X.w) X.A (comprehension (.DictComp kx vx [⟨tg, iter, ifs, 0⟩] scope pos) scope X.env pos' newDict false (eval iter X.env) use) Qf X.xe s := by
  have clo : ∀ y ∈ scope.names, y.2 = .free → ∃ c, X.env.cells.lookup y.1 = some c := by
    intro y hy e
    rcases ok.free y hy e with a | a
    · exact I.ok.has _ (.inl a)
    · exact I.ok.has _ (.inr a)
  refine wpAny_comprehension_free (use := use) rfl fold (closure_ok clo) ok.kind (fun y hy e => by rw [ok.uniq y hy, e]) ?_
  refine thn (hi.run pins s σ H _ I h) fun xv s1 hx => thn hx fun itv s2 got => ?_
  obtain ⟨it, fp, tn, J, H2, rfl, I2, T, at2, out2, q⟩ := got
  refine wpAny_newObj_type (newEnv_comp ?_)
  generalize ed : s2.heap.objs.size = d
  have dn : H2 d = none := I2.hok.fresh (Nat.le_of_eq ed)
  obtain ⟨W, ⟨m0, w0⟩, turn⟩ := q d dn
  generalize e3 : ({ s2 with heap := s2.heap.push { cls := .type "dict", data := .dict #[] } } : Shared) = s3
  have p3 : s3.heap = s2.heap.push { cls := .type "dict", data := .dict #[] } := by rw [← e3]
  have I3 : Inv X pins σ (upd H2 d o0) s3 := by
    rw [← e3, ← ed]
    exact I2.laid (t' := s2.toks) (fun b o z => Heap.get?_push_of_some _ z) (Nat.le_refl _) (fr.okd s2.heap I2.big)
  have old : ∀ b ∈ fp, b < s2.heap.objs.size := fun b hb => (T.obj _ _ at2 b hb).elim fun o z => Heap.lt_size z.1
  have out3 : ∀ b ∈ fp, FpOk X pins (upd H2 d o0) b ∧ b < s3.heap.objs.size := by
    intro b hb
    have lt := old b hb
    have nb : b ≠ d := by rw [← ed]; exact Nat.ne_of_lt lt
    exact ⟨⟨(upd_ne nb).trans (out2 b hb).1, (out2 b hb).2⟩, by rw [p3, Heap.size_push]; exact Nat.lt_succ_of_lt lt⟩
  have at3 : tn 0 s3.heap := T.keep _ _ _ at2 fun b _ o z => by rw [p3]; exact Heap.get?_push_of_some _ z
  have I4 := block_start I3 ok nd out3
  generalize ecl : cellsFrom (s3.heap.objs.size + 1) scope.names (cloFrom X.env.cells scope.names []) = cl at I4 ⊢
  have kg := pt.tg s3 (upd H2 d o0) s3.heap.objs.size cl fp
  have kt := pt.ifs s3 (upd H2 d o0) s3.heap.objs.size cl fp
  have kk := pt.key s3 (upd H2 d o0) s3.heap.objs.size cl fp
  have kv := pt.val s3 (upd H2 d o0) s3.heap.objs.size cl fp
  show codeAny _ _ (.compStart _ 0 (.ref it) (.ref d) (compEnvC scope cl s3.heap.objs.size X.env)) (compPost _ _ _ use _ (.ref d) s3.heap.objs.size) { s3 with heap := pushCells (s3.heap.push { cls := .type "dict", data := .dict #[] }) scope.names }
  generalize ece : compEnvC scope cl s3.heap.objs.size X.env = ce at I4 kg kt kk kv ⊢
  have loc : ce.locals = s3.heap.objs.size := by rw [← ece]; rfl
  generalize eH : upd H2 d o0 = H3 at I3 I4 kg kt kk kv w0 out3
  generalize e4 : ({ s3 with heap := pushCells (s3.heap.push { cls := .type "dict", data := .dict #[] }) scope.names } : Shared) = s4 at I4 ⊢
  have at4 : tn 0 s4.heap := T.keep _ _ _ at3 fun b _ o z => by rw [← e4]; exact pushCells_keeps _ _ _ _ (Heap.get?_push_of_some _ z)
  have out : ∀ {σ' : L2.St} {H' : Hp} {s' : Shared}, Inv (X.blk s3 H3 scope ce fp) [] σ' H' s' → (∀ b ∈ fp, H' b = none) → ∀ b ∈ fp, FpOk (X.blk s3 H3 scope ce fp) [] H' b := by
    intro σ' H' s' I' hn b hb
    have x1 := I'.ok.exf b hb
    exact ⟨hn b hb, x1.1, I'.ok.exfs b hb, .inl hb, fun x c z => x1.2 x c z, fun p hp => absurd (show p ∈ ([] : List (Addr × Obj)) ++ [] from hp) (by simp)⟩
  have loop : codeAny (model X.prog X.w) X.A (.compLoop (.DictComp kx vx [⟨tg, iter, ifs, 0⟩] scope pos) 0 (.ref it) (.ref d) ce)
      (compPost (model X.prog X.w) X.A X.xe use Qf (.ref d) s3.heap.objs.size) s4 := by
    refine compLoop_anyD (fun n t => ∃ i H', Inv (X.blk s3 H3 scope ce fp) [] (wipe σ (own.map (·.2))) H' t ∧ tn i t.heap ∧ (∀ b ∈ fp, H' b = none) ∧ W i n H') ?_ m0 ⟨0, H3, I4, at4, fun b hb => (out3 b hb).1.1, w0⟩
    rintro n s5 ⟨i, H5, I5, at5, n5, w5⟩
    rcases turn i n H5 w5 with ⟨stop, done⟩ | ⟨go, Nx, next, step⟩
    · refine thnF (T.done (X.blk s3 H3 scope ce fp) rfl rfl rfl calm i [] s5 _ H5 (fun _ _ => False) I5 (out I5 n5) at5 stop) ?_
      rintro r s6 ⟨rfl, I6⟩
      have I7 : Inv X pins σ H5 s6 := I3.call' (ch := fp) I6.os I6.base I6.hok I6.bare (by
        intro b hb
        have z := (out3 b hb).1
        exact ⟨z.2.2.2.1, z.2.1, z.2.2.2.2.1, z.2.2.2.2.2⟩)
      have free : H5 s3.heap.objs.size = none := by
        have z : H5 ce.locals = none := I6.free
        rwa [loc] at z
      obtain ⟨m, ns, _⟩ := I6.loc
      have ns : s6.heap.Ns ce.locals m := ns
      rw [loc] at ns
      have last := hRR d s3.heap.objs.size s6 m H5 I7 done ns (I3.fpOk (Nat.le_refl _) free)
      cases use <;> exact last
    · refine thnF (T.item (X.blk s3 H3 scope ce fp) rfl rfl rfl calm i [] s5 _ H5 (fun _ _ => False) I5 (out I5 n5) at5 go) ?_
      rintro r s6 ⟨u, rfl, h6⟩
      refine thnF h6 ?_
      rintro _ s7 ⟨x, H7, I7, r7, y7, at7, n7⟩
      have pinned := I7.pinned (out I7 n7) (T.obj _ _ at7)
      refine thnF (kg.run _ s7 _ H7 x u _ pinned r7 (step x H7 y7)) ?_
      rintro _ s8 ⟨σ8, H8, I8, w8, q8⟩
      refine thnF (kt.run _ s8 σ8 H8 _ I8 q8) ?_
      rintro b s9 ⟨H9, I9, q9⟩
      have back : ∀ {t : Shared} {H' : Hp}, Inv (X.blk s3 H3 scope ce fp) ([] ++ pinsAt fp s7.heap) σ8 H' t → Nx H' →
          ∃ m, m < n ∧ ∃ i H', Inv (X.blk s3 H3 scope ce fp) [] (wipe σ (own.map (·.2))) H' t ∧ tn i t.heap ∧ (∀ b ∈ fp, H' b = none) ∧ W i m H' := by
        intro t H' It nx
        obtain ⟨m', less, w'⟩ := next H' nx
        have still : ∀ b ∈ fp, ∀ o, s7.heap.get? b = some o → t.heap.get? b = some o ∧ H' b = none := by
          intro b hb o z
          have y := It.pin (b, o) (List.mem_append_right _ (List.mem_append_right _ (mem_pinsAt hb z)))
          exact ⟨y.1, y.2.1⟩
        have len : (wipe σ (own.map (·.2))).length = σ8.length := by rw [← w8, wipe_length]
        refine ⟨m', less, i + 1, H', It.unpinned (pins := []) |>.weak len ?_, ?_, ?_, w'⟩
        · intro j v z
          rw [← w8] at z
          exact (wipe_some z).1
        · exact T.keep _ _ _ at7 fun b hb o z => (still b hb o z).1
        · intro b hb
          obtain ⟨o, z, _⟩ := T.obj _ _ at7 b hb
          exact (still b hb o z).2
      cases b with
      | false => exact back I9 (by simpa using q9)
      | true =>
        have q9 := (if_pos rfl).mp q9
        refine thnF (kk.run _ s9 σ8 H9 _ I9 q9) ?_
        rintro y s10 ⟨yk, H10, I10, r10, q10⟩
        refine thnF (kv.run _ s10 σ8 H10 _ I10 q10) ?_
        rintro z s11 ⟨zk, H11, I11, r11, H12, put, nx⟩
        exact put_dict (X := X.blk s3 H3 scope ce fp) room I11 put r10 r11 fun t It => back It nx
  exact codeAny_compStart_dict loop (T.self X.A 0 _ _ _ at4 loop)
theorem ps_setDx {o0 : HO} (fr : Fresh o0) {i : Nat} {y : Str} {py : Pos} {kx vx tg iter : Expr} {ifs : List Expr} {scope : Scope} {own : List (Str × Nat)} {pos spos : Pos} {wi : TI} {g : TG} {tt : TT} {tk tv : TE} (calm : X.calm = true) (room : X.A.units + 1 < cLine) (nd : X.N.Nodup) (hy : X.N[i]? = some y) (hyl : X.env.scope.names.lookup y = some .local)
    (hsw : swapsWith (.DictComp kx vx [⟨tg, iter, ifs, 0⟩] scope pos) (some (.Name y py)) spos.line X.env = pure true) (hi : PI X tg iter wi) (ok : BlkOk X.N X.env.scope scope own)
    (pt : PartsX X scope tg kx vx ifs g tt tk tv) (fold : ∀ x, foldedSetIterable iter X.env x = pure x := by intro _; rfl) :
    PS X (.Assign [.Name y py] (.DictComp kx vx [⟨tg, iter, ifs, 0⟩] scope pos) spos) (tAsg (tDx o0 wi g tt tk tv (own.map (·.2))) (gName i)) := by
  constructor
  intro pins s σ H D I h
  rw [exec_Assign_Name_used _ _ _ _ hsw]
  refine wpAny_bind (wpAny_standAt (wpAny_bind ?_))
  show wpAny _ X.A (do let _ ← comprehension (.DictComp kx vx [⟨tg, iter, ifs, 0⟩] scope pos) scope X.env (firstIterPos [⟨tg, iter, ifs, 0⟩] pos) newDict false (eval iter X.env) (some (assign (.Name y py) X.env))) _ _ s
  have h : tDx o0 wi g tt tk tv (own.map (·.2)) σ H (fun x H1 => gName i x σ H1 D.nx) := h
  refine wpAny_bind (thn (dx_core (Qf := fun _ s' => SP X pins D .next s') fr calm room nd I hi ok pt fold h fun L C s' m H' I' q hn f => ?_) fun _ s' hq => wpAny_pure (wpAny_pure hq))
  show wpAny _ _ (assign (.Name y py) X.env (.ref L)) _ _ _
  refine wpAny_assign_Name (store_ok2 (v := V.ref L) I' nd hy (.inl hyl) rfl (fun s2 I2 ⟨a, sb, ha⟩ => ?_) (.inr hyl))
  obtain ⟨f0, f1, f2, f3, f4, f5⟩ := f
  have apart : C ≠ a := by
    rcases ha with z | z
    · rw [z]
      exact f1
    · exact fun e => f4 y a z e.symm
  exact ⟨m, hn.sameBut sb apart, fun h3 sb3 => ⟨_, H', I2.turned (t' := s2.toks) (fun b o hb e => (sb3.2 b hb).trans e) f0 f1 f3 f4 f5, q⟩⟩
theorem sw_dict {kx vx : Expr} {gs : List Comprehension} {scope : Scope} {pos py : Pos} {y : Str} {l : Nat} {env : Env} (hk : env.scope.kind = .function) (hy : env.scope.names.lookup y = some .local) (hl : (py.line == pos.line) = true)
    (ha : (scope.names.any fun (n, k) => n == y && (k == .local || k == .cell)) = false) : swapsWith (.DictComp kx vx gs scope pos) (some (.Name y py)) l env = pure true := by
  have ky : env.kindOf y = some .local := hy
  have hb : env.blockKind = .function := by
    unfold Env.blockKind
    rw [hk]
    rfl
  unfold swapsWith
  simp only [hb, ky, ha, Expr.pos, hl]
  rfl
end
end HX

/-! N29: x = a comprehension, x a local of a def. -/
namespace NL
open PySem PySem.Spec PyProof.Rows L2
variable {tb : List Addr} {K : PySem.W.Frag} {H H' H1 H2 : Hp} {ms ms' ex ex' : List Addr} {M M' M1 : MM}
variable {X : Cx} {pos p1 p2 py spos : Pos} {tg v : Expr} {ft : FT} {f fk fe : FE} {fb : FB} {y : Str} {t : TE} {sts : List Stmt} {g : FS} {j : Nat}
theorem asg_eM {E : Ends} {σ : L2.St} (h : sM tb K (mAsg f (tgName j)) E σ H) : eM tb K f σ H fun x H1 => gName j x σ H1 E.nx := by
  obtain ⟨ms, ex, r, M, o, M', m, s, e, q⟩ := h
  unfold mAsg at e
  split at e
  · rename_i d M1 h1
    cases e
    exact ⟨ms, ex, r, M, d, _, m, s, h1, fun H' v x m' rv => q H' x m' _ ((s.ext m x).set rv)⟩
  · cases e
theorem ms_setC (h : PS X (.Assign [.Name y py] v spos) (tAsg t (gName j))) (k : ∀ σ H Q, eM tb X.K f σ H Q → t σ H Q) : PS X (.Assign [.Name y py] v spos) (sM tb X.K (mAsg f (tgName j))) := h.weak fun _ _ _ hh => k _ _ _ (asg_eM hh)
theorem ms_setL (h : PS X (.Assign [.Name y py] v spos) (tAsg t (gName j))) (k : ∀ σ H Q, eM tb X.K f σ H Q → tLockE t σ H Q ∨ t σ H Q) : PS X (.Assign [.Name y py] v spos) (sM tb X.K (mAsg f (tgName j))) :=
  (ps_or (ps_lock h) h).weak fun _ _ _ hh => k _ _ _ (asg_eM hh)
theorem mss_newC (h : PS X (.Assign [.Name y py] v spos) (tAsg t (gName j))) (k : ∀ σ H Q, nM tb X.K f σ H Q → t σ H Q) (hk : PSs X sts (sM tb X.K g)) : PSs X (.Assign [.Name y py] v spos :: sts) (sM tb X.K (mNew j f g)) :=
  (pss_cons h hk).weak fun _ _ _ hh => k _ _ _ (mt_new hh)
theorem dcK_read {o0 : D} {u0 : HO} {i : Nat} {f : Str} {C : Addr} {vs : List Nat} {σ : L2.St} {Q : VK} (n0 : New0 u0 o0) (cl : Cls K C) (na : NoAttr K C f) (h : eM tb K (mDcK o0 i C f ft fb fk fe vs) σ H Q) :
    tLockE (HX.tDx u0 (iKeys (tFld K (tVar i) f)) (gW K vs ft) (bM tb K fb) (eM tb K fk) (eM tb K fe) vs) σ H Q ∨ HX.tDx u0 (iKeys (tFld K (tVar i) f)) (gW K vs ft) (bM tb K fb) (eM tb K fk) (eM tb K fe) vs σ H Q := by
  obtain ⟨ms, ex, r, M, o, M', m, s, e, q⟩ := h
  unfold mDcK at e
  split at e
  · rename_i ks hk
    obtain ⟨a, dx, fds, d, ys, g1, g2, g3, g4, hl, n1, n2, ne⟩ := dtAt_ok s hk
    rcases g4 with g4 | ⟨od, g4⟩
    · refine .inl ⟨d, _, g4, trivial, fun od => ?_⟩
      have lk := like_lock (H := H) (o := od) n1 n2 g4
      have m0 := RM.like lk m
      have s0 := Sl.like lk s
      refine ⟨_, g1, a, C, dx, fds, _, rfl, (upd_ne ne).trans g2, cl, na, g3, d, od, rfl, .inr ⟨_, upd_same, ?_⟩⟩
      refine dc_rdK (Q := fun v H' => H' d = some (.frz od (.dT (ks.zip ys))) ∧ Q v (upd H' d (.dT (ks.zip ys)))) n0 m0 s0 e (fun p H2 hp x2 m2' raw => ?_) (fun i H' c x hd => ?_) (fun H' x => keys_stop hl n1 upd_same H' x)
      rotate_left
      · obtain ⟨z1, z2⟩ := keys_go (K := K) hl n1 upd_same i H' c x hd
        exact ⟨z1, fun v H2 y => ⟨(z2 v H2 y).1, fun p => (z2 v H2 y).2 (p :: ex)⟩⟩
      obtain ⟨m2, rv⟩ := raw_out m2' (fresh_ms m0 hp).2 raw
      obtain ⟨e2, x3⟩ := ext_locked n1 g4 x2
      have fr := like_free n1 n2 e2
      exact ⟨e2, q _ _ x3 (RM.like fr m2) (RV.like fr rv)⟩
    · refine .inr ⟨_, g1, a, C, dx, fds, _, rfl, g2, cl, na, g3, d, od, rfl, .inr ⟨_, g4, ?_⟩⟩
      refine dc_rdK n0 m s e (fun p H2 hp x2 m2' raw => ?_) (fun i H' c x hd => ?_) (fun H' x => keys_stop hl n1 g4 H' x)
      · obtain ⟨m2, rv⟩ := raw_out m2' (fresh_ms m hp).2 raw
        exact q _ _ x2 m2 rv
      · obtain ⟨z1, z2⟩ := keys_go (K := K) hl n1 g4 i H' c x hd
        exact ⟨z1, fun v H2 y => ⟨(z2 v H2 y).1, fun p => (z2 v H2 y).2 (p :: ex)⟩⟩
  · cases e
theorem ms_setK {o0 : D} {u0 : HO} {kx vx tg : Expr} {ifs : List Expr} {scope : Scope} {own : List (Str × Nat)} {i : Nat} {x f : Str} {C : Addr} (n0 : New0 u0 o0) (calm : X.calm = true) (room : X.A.units + 1 < cLine) (nd : X.N.Nodup) (hy : X.N[j]? = some y) (hyl : X.env.scope.names.lookup y = some .local)
    (hsw : swapsWith (.DictComp kx vx [⟨tg, .Attribute (.Name x p1) f p2, ifs, 0⟩] scope pos) (some (.Name y py)) spos.line X.env = Pure.pure true) (ok : BlkOk X.N X.env.scope scope own)
    (cl : Cls X.K C) (na : NoAttr X.K C f) (hi : PE X (.Name x p1) (tVar i))
    (pt : HX.PartsX X scope tg kx vx ifs (gW X.K (own.map (·.2)) ft) (bM tb X.K fb) (eM tb X.K fk) (eM tb X.K fe)) (fold : ∀ y, foldedSetIterable (.Attribute (.Name x p1) f p2) X.env y = Pure.pure y := by intro _; rfl)
    (hb2 : attributeBase (.Name x p1) f X.env (eval (.Name x p1) X.env) = eval (.Name x p1) X.env := by rfl) :
    PS X (.Assign [.Name y py] (.DictComp kx vx [⟨tg, .Attribute (.Name x p1) f p2, ifs, 0⟩] scope pos) spos) (sM tb X.K (mAsg (mDcK o0 i C f ft fb fk fe (own.map (·.2))) (tgName j))) :=
  ms_setL (HX.ps_setDx n0.fresh calm room nd hy hyl hsw (pi_keys (tg := tg) (pe_fld (pos := p2) hi hb2)) ok pt fold) fun _ _ _ h => dcK_read n0 cl na h
end NL

/-! the text of twobesides_k08_whole_deeds_pair_by_pair by places, the mirror of each def -/
namespace MT
open PySem PySem.Spec PyProof.Rows L2 NL
def topS (i : Nat) : Stmt := PySem.Challenge.pw_twobesides_k08_whole_deeds_pair_by_pair.main.body.getD i (.Pass ⟨0, 0, 0, 0⟩)
def clsS (i j : Nat) : Stmt := match topS i with
  | .ClassDef _ _ _ b _ _ _ _ _ _ _ => b.getD j (.Pass ⟨0, 0, 0, 0⟩)
  | s => s
abbrev s_p_pairs_of : Stmt := topS 1
abbrev n_p_pairs_of : List Str := ["people", "one", "other"]
theorem sc_p_pairs_of : FnScope ["people", "one", "other"] ["people"] (defScope s_p_pairs_of) := ⟨rfl, rfl, rfl, by decide +kernel, rfl, by decide +kernel, by decide +kernel⟩
abbrev s_p_pair_of : Stmt := topS 2
abbrev n_p_pair_of : List Str := ["one", "other"]
theorem sc_p_pair_of : FnScope ["one", "other"] ["one", "other"] (defScope s_p_pair_of) := ⟨rfl, rfl, rfl, by decide +kernel, rfl, by decide +kernel, by decide +kernel⟩
abbrev s_Bundle___init__ : Stmt := clsS 4 0
abbrev n_Bundle___init__ : List Str := ["self", "people", "full", "ties"]
theorem sc_Bundle___init__ : FnScope ["self", "people", "full", "ties"] ["self", "people", "full", "ties"] (defScope s_Bundle___init__) := ⟨rfl, rfl, rfl, by decide +kernel, rfl, by decide +kernel, by decide +kernel⟩
abbrev s_Bundle_knowing : Stmt := clsS 4 1
abbrev n_Bundle_knowing : List Str := ["self", "one", "other"]
theorem sc_Bundle_knowing : FnScope ["self", "one", "other"] ["self", "one", "other"] (defScope s_Bundle_knowing) := ⟨rfl, rfl, rfl, by decide +kernel, rfl, by decide +kernel, by decide +kernel⟩
abbrev s_Bundle_with_ties : Stmt := clsS 4 2
abbrev n_Bundle_with_ties : List Str := ["self", "told", "ties", "pair"]
theorem sc_Bundle_with_ties : FnScope ["self", "told", "ties", "pair"] ["self", "told"] (defScope s_Bundle_with_ties) := ⟨rfl, rfl, rfl, by decide +kernel, rfl, by decide +kernel, by decide +kernel⟩
abbrev s_p_bundle_of : Stmt := topS 5
abbrev n_p_bundle_of : List Str := ["companies", "people", "ties", "index", "company", "tie", "pair"]
theorem sc_p_bundle_of : FnScope ["companies", "people", "ties", "index", "company", "tie", "pair"] ["companies"] (defScope s_p_bundle_of) := ⟨rfl, rfl, rfl, by decide +kernel, rfl, by decide +kernel, by decide +kernel⟩
abbrev s_p_company_in : Stmt := topS 6
abbrev n_p_company_in : List Str := ["bundle", "index"]
theorem sc_p_company_in : FnScope ["bundle", "index"] ["bundle", "index"] (defScope s_p_company_in) := ⟨rfl, rfl, rfl, by decide +kernel, rfl, by decide +kernel, by decide +kernel⟩
abbrev s_p_answered : Stmt := topS 7
abbrev n_p_answered : List Str := ["answers", "asked", "also", "cases", "told", "case", "answer", "first", "second"]
theorem sc_p_answered : FnScope ["answers", "asked", "also", "cases", "told", "case", "answer", "first", "second"] ["answers", "asked", "also"] (defScope s_p_answered) := ⟨rfl, rfl, rfl, by decide +kernel, rfl, by decide +kernel, by decide +kernel⟩
abbrev s_p_pairs_done : Stmt := topS 8
abbrev n_p_pairs_done : List Str := ["bundle", "doer", "answers", "told", "one", "other", "know", "first", "second", "many"]
theorem sc_p_pairs_done : FnScope ["bundle", "doer", "answers", "told", "one", "other", "know", "first", "second", "many"] ["bundle", "doer", "answers"] (defScope s_p_pairs_done) := ⟨rfl, rfl, rfl, by decide +kernel, rfl, by decide +kernel, by decide +kernel⟩
abbrev s_p_takes_done : Stmt := topS 9
abbrev n_p_takes_done : List Str := ["bundle", "one", "other", "answers", "told", "person", "own", "theirs", "asked"]
theorem sc_p_takes_done : FnScope ["bundle", "one", "other", "answers", "told", "person", "own", "theirs", "asked"] ["bundle", "one", "other", "answers"] (defScope s_p_takes_done) := ⟨rfl, rfl, rfl, by decide +kernel, rfl, by decide +kernel, by decide +kernel⟩
abbrev s_p_tie_done : Stmt := topS 10
abbrev n_p_tie_done : List Str := ["bundle", "one", "other", "word", "know"]
theorem sc_p_tie_done : FnScope ["bundle", "one", "other", "word", "know"] ["bundle", "one", "other", "word"] (defScope s_p_tie_done) := ⟨rfl, rfl, rfl, by decide +kernel, rfl, by decide +kernel, by decide +kernel⟩
abbrev s_p_deed_done : Stmt := topS 11
abbrev n_p_deed_done : List Str := ["bundle", "deed"]
theorem sc_p_deed_done : FnScope ["bundle", "deed"] ["bundle", "deed"] (defScope s_p_deed_done) := ⟨rfl, rfl, rfl, by decide +kernel, rfl, by decide +kernel, by decide +kernel⟩
abbrev s_p_choice_done : Stmt := topS 12
abbrev n_p_choice_done : List Str := ["bundle", "choice", "know", "first", "second", "ties", "pair"]
theorem sc_p_choice_done : FnScope ["bundle", "choice", "know", "first", "second", "ties", "pair"] ["bundle", "choice"] (defScope s_p_choice_done) := ⟨rfl, rfl, rfl, by decide +kernel, rfl, by decide +kernel, by decide +kernel⟩
abbrev s_p_items_done : Stmt := topS 13
abbrev n_p_items_done : List Str := ["bundle", "items", "item"]
theorem sc_p_items_done : FnScope ["bundle", "items", "item"] ["bundle", "items"] (defScope s_p_items_done) := ⟨rfl, rfl, rfl, by decide +kernel, rfl, by decide +kernel, by decide +kernel⟩
abbrev s_p_company_done : Stmt := topS 14
abbrev n_p_company_done : List Str := ["company", "items"]
theorem sc_p_company_done : FnScope ["company", "items"] ["company", "items"] (defScope s_p_company_done) := ⟨rfl, rfl, rfl, by decide +kernel, rfl, by decide +kernel, by decide +kernel⟩
abbrev s_p_is_integer : Stmt := topS 21
abbrev n_p_is_integer : List Str := ["value"]
theorem sc_p_is_integer : FnScope ["value"] ["value"] (defScope s_p_is_integer) := ⟨rfl, rfl, rfl, by decide +kernel, rfl, by decide +kernel, by decide +kernel⟩
abbrev s_p_is_between : Stmt := topS 22
abbrev n_p_is_between : List Str := ["value", "least", "most"]
theorem sc_p_is_between : FnScope ["value", "least", "most"] ["value", "least", "most"] (defScope s_p_is_between) := ⟨rfl, rfl, rfl, by decide +kernel, rfl, by decide +kernel, by decide +kernel⟩
abbrev s_p_is_tuple_of : Stmt := topS 23
abbrev n_p_is_tuple_of : List Str := ["value", "many"]
theorem sc_p_is_tuple_of : FnScope ["value", "many"] ["value", "many"] (defScope s_p_is_tuple_of) := ⟨rfl, rfl, rfl, by decide +kernel, rfl, by decide +kernel, by decide +kernel⟩
abbrev s_p_is_ascending : Stmt := topS 24
abbrev n_p_is_ascending : List Str := ["values", "index"]
theorem sc_p_is_ascending : FnScope ["values", "index"] ["values"] (defScope s_p_is_ascending) := ⟨rfl, rfl, rfl, by decide +kernel, rfl, by decide +kernel, by decide +kernel⟩
abbrev s_p_is_pair_of : Stmt := topS 25
abbrev n_p_is_pair_of : List Str := ["people", "value", "one", "other"]
theorem sc_p_is_pair_of : FnScope ["people", "value", "one", "other"] ["people", "value"] (defScope s_p_is_pair_of) := ⟨rfl, rfl, rfl, by decide +kernel, rfl, by decide +kernel, by decide +kernel⟩
abbrev s_p_are_ties_of : Stmt := topS 26
abbrev n_p_are_ties_of : List Str := ["people", "value", "tie"]
theorem sc_p_are_ties_of : FnScope ["people", "value", "tie"] ["people", "value"] (defScope s_p_are_ties_of) := ⟨rfl, rfl, rfl, by decide +kernel, rfl, by decide +kernel, by decide +kernel⟩
abbrev s_p_is_company_of : Stmt := topS 27
abbrev n_p_is_company_of : List Str := ["named", "value", "people", "ties"]
theorem sc_p_is_company_of : FnScope ["named", "value", "people", "ties"] ["named", "value"] (defScope s_p_is_company_of) := ⟨rfl, rfl, rfl, by decide +kernel, rfl, by decide +kernel, by decide +kernel⟩
abbrev s_p_are_answers : Stmt := topS 28
abbrev n_p_are_answers : List Str := ["value", "many", "answer"]
theorem sc_p_are_answers : FnScope ["value", "many", "answer"] ["value", "many"] (defScope s_p_are_answers) := ⟨rfl, rfl, rfl, by decide +kernel, rfl, by decide +kernel, by decide +kernel⟩
abbrev s_p_are_two_named : Stmt := topS 29
abbrev n_p_are_two_named : List Str := ["named", "one", "other"]
theorem sc_p_are_two_named : FnScope ["named", "one", "other"] ["named", "one", "other"] (defScope s_p_are_two_named) := ⟨rfl, rfl, rfl, by decide +kernel, rfl, by decide +kernel, by decide +kernel⟩
abbrev s_p_is_deed_of : Stmt := topS 30
abbrev n_p_is_deed_of : List Str := ["named", "value"]
theorem sc_p_is_deed_of : FnScope ["named", "value"] ["named", "value"] (defScope s_p_is_deed_of) := ⟨rfl, rfl, rfl, by decide +kernel, rfl, by decide +kernel, by decide +kernel⟩
abbrev s_p_is_asking : Stmt := topS 31
abbrev n_p_is_asking : List Str := ["named", "value"]
theorem sc_p_is_asking : FnScope ["named", "value"] ["named", "value"] (defScope s_p_is_asking) := ⟨rfl, rfl, rfl, by decide +kernel, rfl, by decide +kernel, by decide +kernel⟩
abbrev s_p_left_behind : Stmt := topS 32
abbrev n_p_left_behind : List Str := ["named", "value", "depth", "left", "item"]
theorem sc_p_left_behind : FnScope ["named", "value", "depth", "left", "item"] ["named", "value", "depth", "left"] (defScope s_p_left_behind) := ⟨rfl, rfl, rfl, by decide +kernel, rfl, by decide +kernel, by decide +kernel⟩
abbrev s_p_left_behind_item : Stmt := topS 33
abbrev n_p_left_behind_item : List Str := ["named", "item", "depth", "left"]
theorem sc_p_left_behind_item : FnScope ["named", "item", "depth", "left"] ["named", "item", "depth", "left"] (defScope s_p_left_behind_item) := ⟨rfl, rfl, rfl, by decide +kernel, rfl, by decide +kernel, by decide +kernel⟩
abbrev s_p_is_script_of : Stmt := topS 34
abbrev n_p_is_script_of : List Str := ["named", "value"]
theorem sc_p_is_script_of : FnScope ["named", "value"] ["named", "value"] (defScope s_p_is_script_of) := ⟨rfl, rfl, rfl, by decide +kernel, rfl, by decide +kernel, by decide +kernel⟩
abbrev s_p_check_named : Stmt := topS 41
abbrev n_p_check_named : List Str := ["named"]
theorem sc_p_check_named : FnScope ["named"] ["named"] (defScope s_p_check_named) := ⟨rfl, rfl, rfl, by decide +kernel, rfl, by decide +kernel, by decide +kernel⟩
abbrev s_p_check_company : Stmt := topS 42
abbrev n_p_check_company : List Str := ["named", "company"]
theorem sc_p_check_company : FnScope ["named", "company"] ["named", "company"] (defScope s_p_check_company) := ⟨rfl, rfl, rfl, by decide +kernel, rfl, by decide +kernel, by decide +kernel⟩
abbrev s_p_check_script : Stmt := topS 43
abbrev n_p_check_script : List Str := ["named", "script"]
theorem sc_p_check_script : FnScope ["named", "script"] ["named", "script"] (defScope s_p_check_script) := ⟨rfl, rfl, rfl, by decide +kernel, rfl, by decide +kernel, by decide +kernel⟩
abbrev s_p_done : Stmt := topS 45
abbrev n_p_done : List Str := ["named", "company", "script"]
theorem sc_p_done : FnScope ["named", "company", "script"] ["named", "company", "script"] (defScope s_p_done) := ⟨rfl, rfl, rfl, by decide +kernel, rfl, by decide +kernel, by decide +kernel⟩
abbrev s_Lcup : Stmt := topS 47
abbrev n_Lcup : List Str := ["_law_script", "_law_cell"]
theorem sc_Lcup : FnScope ["_law_script", "_law_cell"] ["_law_script"] (defScope s_Lcup) := ⟨rfl, rfl, rfl, by decide +kernel, rfl, by decide +kernel, by decide +kernel⟩
abbrev s_Lroll : Stmt := topS 48
abbrev n_Lroll : List Str := ["_law_cup_here", "_law_many", "_law_found", "_law_deep"]
theorem sc_Lroll : FnScope ["_law_cup_here", "_law_many", "_law_found", "_law_deep"] ["_law_cup_here", "_law_many"] (defScope s_Lroll) := ⟨rfl, rfl, rfl, by decide +kernel, rfl, by decide +kernel, by decide +kernel⟩
abbrev s_Lsome : Stmt := topS 49
abbrev n_Lsome : List Str := ["_law_cup_here", "_law_things"]
theorem sc_Lsome : FnScope ["_law_cup_here", "_law_things"] ["_law_cup_here", "_law_things"] (defScope s_Lsome) := ⟨rfl, rfl, rfl, by decide +kernel, rfl, by decide +kernel, by decide +kernel⟩
abbrev s_Lpairs : Stmt := topS 50
abbrev n_Lpairs : List Str := ["_law_people", "_law_found", "_law_one", "_law_other"]
theorem sc_Lpairs : FnScope ["_law_people", "_law_found", "_law_one", "_law_other"] ["_law_people"] (defScope s_Lpairs) := ⟨rfl, rfl, rfl, by decide +kernel, rfl, by decide +kernel, by decide +kernel⟩
abbrev s_Lcompany : Stmt := topS 51
abbrev n_Lcompany : List Str := ["_law_cup_here", "_law_named", "_law_least", "_law_most", "_law_people", "_law_way", "_law_pair"]
theorem sc_Lcompany : FnScope ["_law_cup_here", "_law_named", "_law_least", "_law_most", "_law_people", "_law_way", "_law_pair"] ["_law_cup_here", "_law_named", "_law_least", "_law_most"] (defScope s_Lcompany) := ⟨rfl, rfl, rfl, by decide +kernel, rfl, by decide +kernel, by decide +kernel⟩
abbrev s_Lanswers : Stmt := topS 52
abbrev n_Lanswers : List Str := ["_law_cup_here", "_law_many", "_law_answer"]
theorem sc_Lanswers : FnScope ["_law_cup_here", "_law_many", "_law_answer"] ["_law_cup_here", "_law_many"] (defScope s_Lanswers) := ⟨rfl, rfl, rfl, by decide +kernel, rfl, by decide +kernel, by decide +kernel⟩
abbrev s_Ldeed : Stmt := topS 53
abbrev n_Ldeed : List Str := ["_law_cup_here", "_law_named", "_law_doer", "_law_some_here", "_law_other", "_law_person"]
theorem sc_Ldeed : FnScope ["_law_cup_here", "_law_named", "_law_doer", "_law_some_here", "_law_other", "_law_person"] ["_law_cup_here", "_law_named"] (defScope s_Ldeed) := ⟨rfl, rfl, rfl, by decide +kernel, rfl, by decide +kernel, by decide +kernel⟩
abbrev s_Ltwo : Stmt := topS 54
abbrev n_Ltwo : List Str := ["_law_one", "_law_other"]
theorem sc_Ltwo : FnScope ["_law_one", "_law_other"] ["_law_one", "_law_other"] (defScope s_Ltwo) := ⟨rfl, rfl, rfl, by decide +kernel, rfl, by decide +kernel, by decide +kernel⟩
abbrev s_Lknows : Stmt := topS 55
abbrev n_Lknows : List Str := ["_law_company_here", "_law_one", "_law_other"]
theorem sc_Lknows : FnScope ["_law_company_here", "_law_one", "_law_other"] ["_law_company_here", "_law_one", "_law_other"] (defScope s_Lknows) := ⟨rfl, rfl, rfl, by decide +kernel, rfl, by decide +kernel, by decide +kernel⟩
abbrev s_Lbehind : Stmt := topS 56
abbrev n_Lbehind : List Str := ["_law_company_here", "_law_deed_here", "_law_found", "_law_one", "_law_other", "_law_know", "_law_many", "_law_third", "_law_person"]
theorem sc_Lbehind : FnScope ["_law_company_here", "_law_deed_here", "_law_found", "_law_one", "_law_other", "_law_know", "_law_many", "_law_third", "_law_person"] ["_law_company_here", "_law_deed_here"] (defScope s_Lbehind) := ⟨rfl, rfl, rfl, by decide +kernel, rfl, by decide +kernel, by decide +kernel⟩
abbrev s_Law : Stmt := topS 57
abbrev n_Law : List Str := ["_law_script", "_law_cup_here", "_law_turn", "_law_named", "_law_company_here", "_law_deed_here", "_law_four", "_law_all_four", "_law_rows", "_law_due"]
theorem sc_Law : FnScope ["_law_script", "_law_cup_here", "_law_turn", "_law_named", "_law_company_here", "_law_deed_here", "_law_four", "_law_all_four", "_law_rows", "_law_due"] ["_law_script"] (defScope s_Law) := ⟨rfl, rfl, rfl, by decide +kernel, rfl, by decide +kernel, by decide +kernel⟩
inductive Fid where
  | p_pairs_of
  | p_pair_of
  | Bundle_knowing
  | Bundle_with_ties
  | p_bundle_of
  | p_company_in
  | p_answered
  | p_pairs_done
  | p_takes_done
  | p_tie_done
  | p_deed_done
  | p_choice_done
  | p_items_done
  | p_company_done
  | p_is_integer
  | p_is_between
  | p_is_tuple_of
  | p_is_ascending
  | p_is_pair_of
  | p_are_ties_of
  | p_is_company_of
  | p_are_answers
  | p_are_two_named
  | p_is_deed_of
  | p_is_asking
  | p_left_behind
  | p_left_behind_item
  | p_is_script_of
  | p_check_named
  | p_check_company
  | p_check_script
  | p_done
  | Lroll
  | Lsome
  | Lpairs
  | Lcompany
  | Lanswers
  | Ldeed
  | Ltwo
  | Lknows
  | Lbehind
  | mkA
  | mk_Bundle
def g_Lcup : FL := mFunF 2 (mAsg (mFn oAbs (mCons (mOp oIx (mOp oAdd (mFn oList (mCons (mVar 0) mNil)) (mLst (mCons (mC (.int 0)) mNil))) (mC (.int 0))) mNil)) (tgName 1)) (mCons (mIf (mOp oGe (mVar 1) (mOp oPow (mC (.int 10)) (mC (.int 18)))) (mOp oDiv (mVar 1) (mC (.int 43))) (mC (.int 0))) (mCons (mOp oAdd (mOp oMod (mFn oInt (mCons (mOp oAdd (mOp oMul (mVar 1) (mC (.int 251))) (mC (.int 2111))) mNil)) (mC (.int 2077503301))) (mC (.int 137))) mNil))
def B_p_pairs_of (cl : Fid → FC) : FS :=
    (mRet (mLc2 (fiR rng1 (mCons (mVar 0) mNil)) (tgName 1) mYes (fiR rng2 (mCons (mOp oAdd (mVar 1) (mC (.int 1))) (mCons (mVar 0) mNil))) (tgName 2) mYes (mTup (mCons (mVar 1) (mCons (mVar 2) mNil))) [1, 2] [2]))
def B_p_pair_of (cl : Fid → FC) : FS :=
    (mRet (mIf (mOp oLtX (mVar 0) (mVar 1)) (mTup (mCons (mVar 0) (mCons (mVar 1) mNil))) (mTup (mCons (mVar 1) (mCons (mVar 0) mNil)))))
def B_Bundle_knowing (cB : Addr) (cl : Fid → FC) : FS :=
    (mRet (mOp oIxX (mFld cB "ties" (mVar 0)) (mCall (cl .p_pair_of) (mCons (mVar 1) (mCons (mVar 2) mNil)))))
def B_Bundle_with_ties (cB : Addr) (cl : Fid → FC) : FS :=
    (mSeq (mAsg (mDcK (.dt [] []) 0 cB "ties" (tgName 3) mYes (mVar 3) (mGet (mVar 1) (mVar 3) (mOp oIxX (mFld cB "ties" (mVar 0)) (mVar 3))) [3]) (tgName 2))
    (mRet (mCall (cl .mk_Bundle) (mCons (mFld cB "people" (mVar 0)) (mCons (mFld cB "full" (mVar 0)) (mCons (mVar 2) mNil))))))
def B_p_bundle_of (cl : Fid → FC) : FS :=
    (mSeq (mAsg (mOp oIx (mOp oIx (mVar 0) (mC (.int 0))) (mC (.int 0))) (tgName 1))
    (mNew 2 (mDc (.dt [] []) itemsL (mCall (cl .p_pairs_of) (mCons (mVar 1) mNil)) (tgName 6) mYes (mVar 6) (mC (.int 0)) [6]) (mSeq (mForE (mCons (mVar 0) mNil) (tgTup 2 (tgCons (tgName 3) (tgCons (tgName 4) tgNil))) (mFor itemsT (mOp oIx (mVar 4) (mC (.int 1))) (tgName 5) (mPut (mOp oBor (mOp oIxX (mVar 2) (mVar 5)) (mOp oShl (mC (.int 1)) (mVar 3))) (mVar 2) (mVar 5))))
    (mRet (mCall (cl .mk_Bundle) (mCons (mVar 1) (mCons (mOp oSub (mOp oShl (mC (.int 1)) (mFn oLen (mCons (mVar 0) mNil))) (mC (.int 1))) (mCons (mVar 2) mNil))))))))
def B_p_company_in (cB : Addr) (cl : Fid → FC) : FS :=
    (mRet (mTup (mCons (mFld cB "people" (mVar 0)) (mCons (mHeld 0 1 cB "ties") mNil))))
def B_p_answered (cl : Fid → FC) : FS :=
    (mSeq (mAsg (mLc2 (fiT (mVar 1)) (tgName 7) mYes (fiT (mVar 2)) (tgName 8) mYes (mOp oBand (mVar 7) (mVar 8)) [7, 8] [8]) (tgName 3))
    (mSeq (mAsg (mC (.int 0)) (tgName 4))
    (mSeq (mForZ (mCons (mVar 3) (mCons (mVar 0) mNil)) (tgTup 2 (tgCons (tgName 5) (tgCons (tgName 6) tgNil))) (mIfS (mB (mOp oEq (mVar 6) (mC (.int 1)))) (mAsg (mOp oBor (mVar 4) (mVar 5)) (tgName 4)) mSkip))
    (mRet (mVar 4)))))
def B_p_pairs_done (cB : Addr) (cl : Fid → FC) : FS :=
    (mNew 3 (mNewD (.dt [] [])) (mSeq (mForK 0 cB "ties" (tgTup 2 (tgCons (tgName 4) (tgCons (tgName 5) tgNil))) (mIfS (mB (mAnd (mOp oNe (mVar 1) (mVar 4)) (mOp oNe (mVar 1) (mVar 5)))) (mSeq (mAsg (mMeth cB "knowing" (cl .Bundle_knowing) (mVar 0) (mCons (mVar 4) (mCons (mVar 5) mNil))) (tgName 6))
    (mSeq (mAsg (mMeth cB "knowing" (cl .Bundle_knowing) (mVar 0) (mCons (mVar 1) (mCons (mVar 4) mNil))) (tgName 7))
    (mSeq (mAsg (mMeth cB "knowing" (cl .Bundle_knowing) (mVar 0) (mCons (mVar 1) (mCons (mVar 5) mNil))) (tgName 8))
    (mSeq (mAsg (mTup (mCons (mOp oBxor (mFld cB "full" (mVar 0)) (mOp oBor (mVar 7) (mVar 8))) (mCons (mOp oBxor (mVar 7) (mVar 8)) (mCons (mOp oBand (mVar 7) (mVar 8)) mNil)))) (tgName 9))
    (mPut (mCall (cl .p_answered) (mCons (mVar 2) (mCons (mTup (mCons (mOp oBxor (mFld cB "full" (mVar 0)) (mVar 6)) (mCons (mVar 6) mNil))) (mCons (mVar 9) mNil)))) (mVar 3) (mTup (mCons (mVar 4) (mCons (mVar 5) mNil)))))))) mSkip))
    (mRet (mMeth cB "with_ties" (cl .Bundle_with_ties) (mVar 0) (mCons (mVar 3) mNil)))))
def B_p_takes_done (cB : Addr) (cl : Fid → FC) : FS :=
    (mNew 4 (mNewD (.dt [] [])) (mSeq (mForR rng1 (mCons (mFld cB "people" (mVar 0)) mNil) (tgName 5) (mIfS (mB (mAnd (mOp oNe (mVar 5) (mVar 1)) (mOp oNe (mVar 5) (mVar 2)))) (mSeq (mAsg (mMeth cB "knowing" (cl .Bundle_knowing) (mVar 0) (mCons (mVar 1) (mCons (mVar 5) mNil))) (tgName 6))
    (mSeq (mAsg (mMeth cB "knowing" (cl .Bundle_knowing) (mVar 0) (mCons (mVar 2) (mCons (mVar 5) mNil))) (tgName 7))
    (mSeq (mAsg (mTup (mCons (mOp oBxor (mFld cB "full" (mVar 0)) (mVar 6)) (mCons (mVar 6) mNil))) (tgName 8))
    (mPut (mCall (cl .p_answered) (mCons (mVar 3) (mCons (mVar 8) (mCons (mTup (mCons (mOp oBxor (mFld cB "full" (mVar 0)) (mVar 7)) (mCons (mVar 7) mNil))) mNil)))) (mVar 4) (mCall (cl .p_pair_of) (mCons (mVar 1) (mCons (mVar 5) mNil))))))) mSkip))
    (mRet (mMeth cB "with_ties" (cl .Bundle_with_ties) (mVar 0) (mCons (mVar 4) mNil)))))
def B_p_tie_done (cB : Addr) (cl : Fid → FC) : FS :=
    (mSeq (mAsg (mFld cB "full" (mVar 0)) (tgName 4))
    (mSeq (mIfS (mB (mOp oEq (mVar 3) (mC (.str "part")))) (mAsg (mC (.int 0)) (tgName 4)) mSkip)
    (mSeq (mIfS (mB (mOp oEq (mVar 3) (mC (.str "turn")))) (mAsg (mOp oBxor (mFld cB "full" (mVar 0)) (mMeth cB "knowing" (cl .Bundle_knowing) (mVar 0) (mCons (mVar 1) (mCons (mVar 2) mNil)))) (tgName 4)) mSkip)
    (mRet (mMeth cB "with_ties" (cl .Bundle_with_ties) (mVar 0) (mCons (mDisp (.dt [] []) [((mCall (cl .p_pair_of) (mCons (mVar 1) (mCons (mVar 2) mNil))), (mVar 4))]) mNil))))))
def B_p_deed_done (cl : Fid → FC) : FS :=
    (mSeq (mIfS (mB (mOp oEq (mOp oIx (mVar 1) (mC (.int 0))) (mC (.str "pairs")))) (mRet (mCall (cl .p_pairs_done) (mCons (mVar 0) (mCons (mOp oIx (mVar 1) (mC (.int 1))) (mCons (mOp oIx (mVar 1) (mC (.int 2))) mNil))))) mSkip)
    (mSeq (mIfS (mB (mOp oEq (mOp oIx (mVar 1) (mC (.int 0))) (mC (.str "takes")))) (mRet (mCall (cl .p_takes_done) (mCons (mVar 0) (mCons (mOp oIx (mVar 1) (mC (.int 1))) (mCons (mOp oIx (mVar 1) (mC (.int 2))) (mCons (mOp oIx (mVar 1) (mC (.int 3))) mNil)))))) mSkip)
    (mRet (mCall (cl .p_tie_done) (mCons (mVar 0) (mCons (mOp oIx (mVar 1) (mC (.int 1))) (mCons (mOp oIx (mVar 1) (mC (.int 2))) (mCons (mOp oIx (mVar 1) (mC (.int 3))) mNil))))))))
def B_p_choice_done (cB : Addr) (cl : Fid → FC) : FS :=
    (mSeq (mAsg (mMeth cB "knowing" (cl .Bundle_knowing) (mVar 0) (mCons (mOp oIx (mVar 1) (mC (.int 1))) (mCons (mOp oIx (mVar 1) (mC (.int 2))) mNil))) (tgName 2))
    (mSeq (mAsg (mCall (cl .p_items_done) (mCons (mVar 0) (mCons (mOp oIx (mVar 1) (mC (.int 3))) mNil))) (tgName 3))
    (mSeq (mAsg (mCall (cl .p_items_done) (mCons (mVar 0) (mCons (mOp oIx (mVar 1) (mC (.int 4))) mNil))) (tgName 4))
    (mSeq (mAsg (mDcK (.dt [] []) 0 cB "ties" (tgName 6) mYes (mVar 6) (mOp oBor (mOp oBand (mOp oIxX (mFld cB "ties" (mVar 3)) (mVar 6)) (mVar 2)) (mOp oBand (mOp oIxX (mFld cB "ties" (mVar 4)) (mVar 6)) (mOp oBxor (mFld cB "full" (mVar 0)) (mVar 2)))) [6]) (tgName 5))
    (mRet (mMeth cB "with_ties" (cl .Bundle_with_ties) (mVar 0) (mCons (mVar 5) mNil)))))))
def B_p_items_done (cl : Fid → FC) : FS :=
    (mSeq (mFor itemsT (mVar 1) (tgName 2) (mIfS (mB (mOp oEq (mOp oIx (mVar 2) (mC (.int 0))) (mC (.str "ask")))) (mAsg (mCall (cl .p_choice_done) (mCons (mVar 0) (mCons (mVar 2) mNil))) (tgName 0)) (mAsg (mCall (cl .p_deed_done) (mCons (mVar 0) (mCons (mVar 2) mNil))) (tgName 0))))
    (mRet (mVar 0)))
def B_p_company_done (cl : Fid → FC) : FS :=
    (mRet (mCall (cl .p_company_in) (mCons (mCall (cl .p_items_done) (mCons (mCall (cl .p_bundle_of) (mCons (mLst (mCons (mVar 0) mNil)) mNil)) (mCons (mVar 1) mNil))) (mCons (mC (.int 0)) mNil))))
def B_p_is_integer (cl : Fid → FC) : FS :=
    (mRet (mAnd (mIs "int" (mVar 0)) (mNot (mIs "bool" (mVar 0)))))
def B_p_is_between (cl : Fid → FC) : FS :=
    (mRet (mAnd (mCall (cl .p_is_integer) (mCons (mVar 0) mNil)) (mChain oLe oLe (mVar 1) (mVar 0) (mVar 2))))
def B_p_is_tuple_of (cl : Fid → FC) : FS :=
    (mRet (mAnd (mIs "tuple" (mVar 0)) (mOp oEq (mFn oLen (mCons (mVar 0) mNil)) (mVar 1))))
def B_p_is_ascending (cl : Fid → FC) : FS :=
    (mRet (mFn oAll (mCons (mLcR rng1 (mCons (mOp oSub (mFn oLen (mCons (mVar 0) mNil)) (mC (.int 1))) mNil) (tgName 1) mYes (mOp oLtX (mOp oIx (mVar 0) (mVar 1)) (mOp oIx (mVar 0) (mOp oAdd (mVar 1) (mC (.int 1))))) [1]) mNil)))
def B_p_is_pair_of (cl : Fid → FC) : FS :=
    (mSeq (mIfS (mB (mNot (mCall (cl .p_is_tuple_of) (mCons (mVar 1) (mCons (mC (.int 2)) mNil))))) (mRet (mC (.bl false))) mSkip)
    (mSeq (mAsg (mVar 1) (tgTup 2 (tgCons (tgName 2) (tgCons (tgName 3) tgNil))))
    (mRet (mAnd (mCall (cl .p_is_between) (mCons (mVar 2) (mCons (mC (.int 0)) (mCons (mOp oSub (mVar 0) (mC (.int 1))) mNil)))) (mCall (cl .p_is_between) (mCons (mVar 3) (mCons (mOp oAdd (mVar 2) (mC (.int 1))) (mCons (mOp oSub (mVar 0) (mC (.int 1))) mNil))))))))
def B_p_are_ties_of (cl : Fid → FC) : FS :=
    (mSeq (mIfS (mB (mNot (mIs "tuple" (mVar 1)))) (mRet (mC (.bl false))) mSkip)
    (mRet (mAnd (mFn oAll (mCons (mLc itemsT (mVar 1) (tgName 2) mYes (mCall (cl .p_is_pair_of) (mCons (mVar 0) (mCons (mVar 2) mNil))) [2]) mNil)) (mCall (cl .p_is_ascending) (mCons (mVar 1) mNil)))))
def B_p_is_company_of (cl : Fid → FC) : FS :=
    (mSeq (mIfS (mB (mNot (mCall (cl .p_is_tuple_of) (mCons (mVar 1) (mCons (mC (.int 2)) mNil))))) (mRet (mC (.bl false))) mSkip)
    (mSeq (mAsg (mVar 1) (tgTup 2 (tgCons (tgName 2) (tgCons (tgName 3) tgNil))))
    (mRet (mAnd (mCall (cl .p_is_between) (mCons (mVar 2) (mCons (mVar 0) (mCons (mC (.int 9)) mNil)))) (mCall (cl .p_are_ties_of) (mCons (mVar 2) (mCons (mVar 3) mNil)))))))
def B_p_are_answers (cl : Fid → FC) : FS :=
    (mRet (mAnd (mCall (cl .p_is_tuple_of) (mCons (mVar 0) (mCons (mVar 1) mNil))) (mFn oAll (mCons (mLc itemsT (mVar 0) (tgName 2) mYes (mCall (cl .p_is_between) (mCons (mVar 2) (mCons (mC (.int 0)) (mCons (mC (.int 1)) mNil)))) [2]) mNil))))
def B_p_are_two_named (cl : Fid → FC) : FS :=
    (mRet (mAnd (mCall (cl .p_is_between) (mCons (mVar 1) (mCons (mC (.int 0)) (mCons (mOp oSub (mVar 0) (mC (.int 1))) mNil)))) (mAnd (mCall (cl .p_is_between) (mCons (mVar 2) (mCons (mC (.int 0)) (mCons (mOp oSub (mVar 0) (mC (.int 1))) mNil)))) (mOp oNe (mVar 1) (mVar 2)))))
def B_p_is_deed_of (cl : Fid → FC) : FS :=
    (mSeq (mIfS (mB (mAnd (mCall (cl .p_is_tuple_of) (mCons (mVar 1) (mCons (mC (.int 3)) mNil))) (mOp oEq (mOp oIx (mVar 1) (mC (.int 0))) (mC (.str "pairs"))))) (mRet (mAnd (mCall (cl .p_is_between) (mCons (mOp oIx (mVar 1) (mC (.int 1))) (mCons (mC (.int 0)) (mCons (mOp oSub (mVar 0) (mC (.int 1))) mNil)))) (mCall (cl .p_are_answers) (mCons (mOp oIx (mVar 1) (mC (.int 2))) (mCons (mC (.int 6)) mNil))))) mSkip)
    (mSeq (mIfS (mB (mOr (mNot (mCall (cl .p_is_tuple_of) (mCons (mVar 1) (mCons (mC (.int 4)) mNil)))) (mNot (mCall (cl .p_are_two_named) (mCons (mVar 0) (mCons (mOp oIx (mVar 1) (mC (.int 1))) (mCons (mOp oIx (mVar 1) (mC (.int 2))) mNil))))))) (mRet (mC (.bl false))) mSkip)
    (mSeq (mIfS (mB (mOp oEq (mOp oIx (mVar 1) (mC (.int 0))) (mC (.str "takes")))) (mRet (mCall (cl .p_are_answers) (mCons (mOp oIx (mVar 1) (mC (.int 3))) (mCons (mC (.int 4)) mNil)))) mSkip)
    (mRet (mAnd (mOp oEq (mOp oIx (mVar 1) (mC (.int 0))) (mC (.str "tie"))) (mOp oInX (mOp oIx (mVar 1) (mC (.int 3))) (mC (.ct [(.str "know"), (.str "part"), (.str "turn")]))))))))
def B_p_is_asking (cl : Fid → FC) : FS :=
    (mSeq (mIfS (mB (mOr (mNot (mCall (cl .p_is_tuple_of) (mCons (mVar 1) (mCons (mC (.int 5)) mNil)))) (mOp oNe (mOp oIx (mVar 1) (mC (.int 0))) (mC (.str "ask"))))) (mRet (mC (.bl false))) mSkip)
    (mRet (mCall (cl .p_are_two_named) (mCons (mVar 0) (mCons (mOp oIx (mVar 1) (mC (.int 1))) (mCons (mOp oIx (mVar 1) (mC (.int 2))) mNil))))))
def B_p_left_behind (cl : Fid → FC) : FS :=
    (mSeq (mIfS (mB (mOr (mNot (mIs "tuple" (mVar 1))) (mOp oGt (mFn oLen (mCons (mVar 1) mNil)) (mVar 3)))) (mRet (mUn oNeg (mC (.int 1)))) mSkip)
    (mSeq (mAsg (mOp oSub (mVar 3) (mFn oLen (mCons (mVar 1) mNil))) (tgName 3))
    (mSeq (mFor itemsT (mVar 1) (tgName 4) (mAsg (mCall (cl .p_left_behind_item) (mCons (mVar 0) (mCons (mVar 4) (mCons (mVar 2) (mCons (mVar 3) mNil))))) (tgName 3)))
    (mRet (mVar 3)))))
def B_p_left_behind_item (cl : Fid → FC) : FS :=
    (mSeq (mIfS (mB (mCall (cl .p_is_deed_of) (mCons (mVar 0) (mCons (mVar 1) mNil)))) (mRet (mVar 3)) mSkip)
    (mSeq (mIfS (mB (mOr (mOp oEq (mVar 2) (mC (.int 0))) (mNot (mCall (cl .p_is_asking) (mCons (mVar 0) (mCons (mVar 1) mNil)))))) (mRet (mUn oNeg (mC (.int 1)))) mSkip)
    (mSeq (mAsg (mCall (cl .p_left_behind) (mCons (mVar 0) (mCons (mOp oIx (mVar 1) (mC (.int 3))) (mCons (mOp oSub (mVar 2) (mC (.int 1))) (mCons (mVar 3) mNil))))) (tgName 3))
    (mRet (mCall (cl .p_left_behind) (mCons (mVar 0) (mCons (mOp oIx (mVar 1) (mC (.int 4))) (mCons (mOp oSub (mVar 2) (mC (.int 1))) (mCons (mVar 3) mNil)))))))))
def B_p_is_script_of (cl : Fid → FC) : FS :=
    (mRet (mOp oGe (mCall (cl .p_left_behind) (mCons (mVar 0) (mCons (mVar 1) (mCons (mC (.int 4)) (mCons (mC (.int 30)) mNil))))) (mC (.int 0))))
def B_p_check_named (cl : Fid → FC) : FS :=
    (mIfS (mB (mNot (mCall (cl .p_is_between) (mCons (mVar 0) (mCons (mC (.int 1)) (mCons (mC (.int 3)) mNil)))))) mNever mSkip)
def B_p_check_company (cl : Fid → FC) : FS :=
    (mSeq (mDrop (mCall (cl .p_check_named) (mCons (mVar 0) mNil)))
    (mIfS (mB (mNot (mCall (cl .p_is_company_of) (mCons (mVar 0) (mCons (mVar 1) mNil))))) mNever mSkip))
def B_p_check_script (cl : Fid → FC) : FS :=
    (mSeq (mDrop (mCall (cl .p_check_named) (mCons (mVar 0) mNil)))
    (mIfS (mB (mNot (mCall (cl .p_is_script_of) (mCons (mVar 0) (mCons (mVar 1) mNil))))) mNever mSkip))
def B_p_done (cl : Fid → FC) : FS :=
    (mSeq (mDrop (mCall (cl .p_check_company) (mCons (mVar 0) (mCons (mVar 1) mNil))))
    (mSeq (mDrop (mCall (cl .p_check_script) (mCons (mVar 0) (mCons (mVar 2) mNil))))
    (mRet (mCall (cl .p_company_done) (mCons (mVar 1) (mCons (mVar 2) mNil))))))
def B_Lroll (cl : Fid → FC) : FS :=
    (mSeq (mIfS (mB (mOp oGt (mOp oIx (mVar 0) (mC (.int 0))) (mC (.int 0)))) (mSeq (mAsg (mOp oMod (mFn oInt (mCons (mOp oIx (mVar 0) (mC (.int 0))) mNil)) (mVar 1)) (tgName 2))
    (mSeq (mStore (mOp oDiv (mOp oIx (mVar 0) (mC (.int 0))) (mVar 1)) (mVar 0) (mC (.int 0)))
    (mRet (mVar 2)))) mSkip)
    (mSeq (mStore (mOp oMod (mFn oInt (mCons (mOp oAdd (mOp oMul (mOp oIx (mVar 0) (mC (.int 1))) (mC (.int 30983))) (mC (.int 7933))) mNil)) (mC (.int 2147483563))) (mVar 0) (mC (.int 1)))
    (mSeq (mAsg (mOp oMod (mFn oInt (mCons (mOp oMul (mOp oIx (mVar 0) (mC (.int 1))) (mOp oAdd (mOp oIx (mVar 0) (mC (.int 1))) (mC (.int 197)))) mNil)) (mC (.int 2147483587))) (tgName 3))
    (mRet (mOp oMod (mFn oInt (mCons (mOp oDiv (mVar 3) (mC (.int 773))) mNil)) (mVar 1))))))
def B_Lsome (cl : Fid → FC) : FS :=
    (mRet (mOp oIx (mVar 1) (mCall (cl .Lroll) (mCons (mVar 0) (mCons (mFn oLen (mCons (mVar 1) mNil)) mNil)))))
def B_Lpairs (cl : Fid → FC) : FS :=
    (mSeq (mAsg (mLst mNil) (tgName 1))
    (mSeq (mForR rng1 (mCons (mVar 0) mNil) (tgName 2) (mAsg (mOp oAdd (mVar 1) (mLcR rng2 (mCons (mOp oAdd (mVar 2) (mC (.int 1))) (mCons (mVar 0) mNil)) (tgName 3) mYes (mTup (mCons (mVar 2) (mCons (mVar 3) mNil))) [3])) (tgName 1)))
    (mRet (mVar 1))))
def B_Lcompany (cl : Fid → FC) : FS :=
    (mSeq (mPar2 4 5 (mCons (mOp oAdd (mOp oAdd (mVar 1) (mVar 2)) (mCall (cl .Lroll) (mCons (mVar 0) (mCons (mOp oAdd (mOp oSub (mVar 3) (mVar 2)) (mC (.int 1))) mNil)))) (mCons (mCall (cl .Lroll) (mCons (mVar 0) (mCons (mC (.int 8)) mNil))) mNil)))
    (mSeq (mIfS (mB (mOp oLtX (mVar 5) (mC (.int 2)))) (mRet (mTup (mCons (mVar 4) (mCons (mIf (mOp oEq (mVar 5) (mC (.int 0))) (mFn oTuple (mCons (mCall (cl .Lpairs) (mCons (mVar 4) mNil)) mNil)) (mTup mNil)) mNil)))) mSkip)
    (mRet (mTup (mCons (mVar 4) (mCons (mFn oTuple (mCons (mLc itemsL (mCall (cl .Lpairs) (mCons (mVar 4) mNil)) (tgName 6) (mB (mOp oEq (mCall (cl .Lroll) (mCons (mVar 0) (mCons (mC (.int 2)) mNil))) (mC (.int 0)))) (mVar 6) [6]) mNil)) mNil))))))
def B_Lanswers (cl : Fid → FC) : FS :=
    (mRet (mFn oTuple (mCons (mLcR rng1 (mCons (mVar 1) mNil) (tgName 2) mYes (mCall (cl .Lroll) (mCons (mVar 0) (mCons (mC (.int 2)) mNil))) [2]) mNil)))
def B_Ldeed (cl : Fid → FC) : FS :=
    (mSeq (mAsg (mCall (cl .Lroll) (mCons (mVar 0) (mCons (mVar 1) mNil))) (tgName 2))
    (mSeq (mIfS (mB (mOr (mOp oEq (mVar 1) (mC (.int 1))) (mOp oLtX (mCall (cl .Lroll) (mCons (mVar 0) (mCons (mC (.int 5)) mNil))) (mC (.int 2))))) (mSeq (mAsg (mLst (mCons (mTup (mCons (mC (.int 0)) (mCons (mC (.int 0)) (mCons (mC (.int 1)) (mCons (mC (.int 1)) (mCons (mC (.int 1)) (mCons (mC (.int 1)) mNil))))))) (mCons (mTup (mCons (mC (.int 0)) (mCons (mC (.int 0)) (mCons (mC (.int 0)) (mCons (mC (.int 1)) (mCons (mC (.int 1)) (mCons (mC (.int 0)) mNil))))))) (mCons (mTup (mCons (mC (.int 1)) (mCons (mC (.int 0)) (mCons (mC (.int 0)) (mCons (mC (.int 1)) (mCons (mC (.int 1)) (mCons (mC (.int 1)) mNil))))))) (mCons (mTup (mCons (mC (.int 0)) (mCons (mC (.int 0)) (mCons (mC (.int 1)) (mCons (mC (.int 1)) (mCons (mC (.int 1)) (mCons (mC (.int 0)) mNil))))))) (mCons (mTup (mCons (mC (.int 1)) (mCons (mC (.int 1)) (mCons (mC (.int 1)) (mCons (mC (.int 0)) (mCons (mC (.int 0)) (mCons (mC (.int 0)) mNil))))))) (mCons (mTup (mCons (mC (.int 0)) (mCons (mC (.int 0)) (mCons (mC (.int 0)) (mCons (mC (.int 1)) (mCons (mC (.int 1)) (mCons (mC (.int 1)) mNil))))))) (mCons (mTup (mCons (mC (.int 0)) (mCons (mC (.int 1)) (mCons (mC (.int 0)) (mCons (mC (.int 0)) (mCons (mC (.int 1)) (mCons (mC (.int 0)) mNil))))))) mNil)))))))) (tgName 3))
    (mRet (mTup (mCons (mC (.str "pairs")) (mCons (mVar 2) (mCons (mCall (cl .Lsome) (mCons (mVar 0) (mCons (mOp oAdd (mVar 3) (mLst (mCons (mCall (cl .Lanswers) (mCons (mVar 0) (mCons (mC (.int 6)) mNil))) (mCons (mCall (cl .Lanswers) (mCons (mVar 0) (mCons (mC (.int 6)) mNil))) (mCons (mCall (cl .Lanswers) (mCons (mVar 0) (mCons (mC (.int 6)) mNil))) mNil))))) mNil))) mNil)))))) mSkip)
    (mSeq (mAsg (mCall (cl .Lsome) (mCons (mVar 0) (mCons (mLcR rng1 (mCons (mVar 1) mNil) (tgName 5) (mB (mOp oNe (mVar 5) (mVar 2))) (mVar 5) [5]) mNil))) (tgName 4))
    (mSeq (mIfS (mB (mOp oGt (mCall (cl .Lroll) (mCons (mVar 0) (mCons (mC (.int 3)) mNil))) (mC (.int 0)))) (mSeq (mAsg (mLst (mCons (mTup (mCons (mC (.int 0)) (mCons (mC (.int 1)) (mCons (mC (.int 0)) (mCons (mC (.int 1)) mNil))))) (mCons (mTup (mCons (mC (.int 0)) (mCons (mC (.int 1)) (mCons (mC (.int 1)) (mCons (mC (.int 0)) mNil))))) (mCons (mTup (mCons (mC (.int 0)) (mCons (mC (.int 1)) (mCons (mC (.int 1)) (mCons (mC (.int 1)) mNil))))) (mCons (mTup (mCons (mC (.int 0)) (mCons (mC (.int 0)) (mCons (mC (.int 0)) (mCons (mC (.int 1)) mNil))))) (mCons (mTup (mCons (mC (.int 0)) (mCons (mC (.int 0)) (mCons (mC (.int 1)) (mCons (mC (.int 1)) mNil))))) (mCons (mCall (cl .Lanswers) (mCons (mVar 0) (mCons (mC (.int 4)) mNil))) (mCons (mCall (cl .Lanswers) (mCons (mVar 0) (mCons (mC (.int 4)) mNil))) mNil)))))))) (tgName 3))
    (mRet (mTup (mCons (mC (.str "takes")) (mCons (mVar 2) (mCons (mVar 4) (mCons (mCall (cl .Lsome) (mCons (mVar 0) (mCons (mVar 3) mNil))) mNil))))))) mSkip)
    (mRet (mTup (mCons (mC (.str "tie")) (mCons (mVar 2) (mCons (mVar 4) (mCons (mCall (cl .Lsome) (mCons (mVar 0) (mCons (mLst (mCons (mC (.str "know")) (mCons (mC (.str "part")) (mCons (mC (.str "turn")) mNil)))) mNil))) mNil))))))))))
def B_Ltwo (cl : Fid → FC) : FS :=
    (mRet (mIf (mOp oLtX (mVar 0) (mVar 1)) (mTup (mCons (mVar 0) (mCons (mVar 1) mNil))) (mTup (mCons (mVar 1) (mCons (mVar 0) mNil)))))
def B_Lknows (cl : Fid → FC) : FS :=
    (mRet (mOp oInX (mCall (cl .Ltwo) (mCons (mVar 1) (mCons (mVar 2) mNil))) (mOp oIx (mVar 0) (mC (.int 1)))))
def B_Lbehind (cl : Fid → FC) : FS :=
    (mNew 2 (mLst mNil) (mSeq (mFor itemsL (mCall (cl .Lpairs) (mCons (mOp oIx (mVar 0) (mC (.int 0))) mNil)) (tgTup 2 (tgCons (tgName 3) (tgCons (tgName 4) tgNil))) (mSeq (mAsg (mCall (cl .Lknows) (mCons (mVar 0) (mCons (mVar 3) (mCons (mVar 4) mNil)))) (tgName 5))
    (mSeq (mIfS (mB (mAnd (mOp oEq (mOp oIx (mVar 1) (mC (.int 0))) (mC (.str "pairs"))) (mOp oNotInX (mOp oIx (mVar 1) (mC (.int 1))) (mTup (mCons (mVar 3) (mCons (mVar 4) mNil)))))) (mSeq (mAsg (mCountE (mLc itemsT (mTup (mCons (mVar 3) (mCons (mVar 4) mNil))) (tgName 8) mYes (mCall (cl .Lknows) (mCons (mVar 0) (mCons (mOp oIx (mVar 1) (mC (.int 1))) (mCons (mVar 8) mNil)))) [8]) (mC (.bl true))) (tgName 6))
    (mAsg (mOp oEq (mOp oIx (mOp oIx (mVar 1) (mC (.int 2))) (mOp oAdd (mIf (mVar 5) (mC (.int 3)) (mC (.int 0))) (mVar 6))) (mC (.int 1))) (tgName 5))) (mIfS (mB (mAnd (mOp oEq (mOp oIx (mVar 1) (mC (.int 0))) (mC (.str "takes"))) (mAnd (mOp oInX (mOp oIx (mVar 1) (mC (.int 1))) (mTup (mCons (mVar 3) (mCons (mVar 4) mNil)))) (mOp oNotInX (mOp oIx (mVar 1) (mC (.int 2))) (mTup (mCons (mVar 3) (mCons (mVar 4) mNil))))))) (mSeq (mAsg (mIf (mOp oEq (mOp oIx (mVar 1) (mC (.int 1))) (mVar 3)) (mVar 4) (mVar 3)) (tgName 7))
    (mAsg (mOp oEq (mOp oIx (mOp oIx (mVar 1) (mC (.int 3))) (mOp oAdd (mIf (mVar 5) (mC (.int 2)) (mC (.int 0))) (mIf (mCall (cl .Lknows) (mCons (mVar 0) (mCons (mOp oIx (mVar 1) (mC (.int 2))) (mCons (mVar 7) mNil)))) (mC (.int 1)) (mC (.int 0))))) (mC (.int 1))) (tgName 5))) (mIfS (mB (mAnd (mOp oEq (mOp oIx (mVar 1) (mC (.int 0))) (mC (.str "tie"))) (mOp oEq (mCall (cl .Ltwo) (mCons (mOp oIx (mVar 1) (mC (.int 1))) (mCons (mOp oIx (mVar 1) (mC (.int 2))) mNil))) (mTup (mCons (mVar 3) (mCons (mVar 4) mNil)))))) (mAsg (mOp oIxX (mDisp (.dk [] []) [((mC (.str "know")), (mC (.bl true))), ((mC (.str "part")), (mC (.bl false))), ((mC (.str "turn")), (mNot (mVar 5)))]) (mOp oIx (mVar 1) (mC (.int 3)))) (tgName 5)) mSkip)))
    (mIfS (mB (mVar 5)) (mDrop (mAppE (mVar 2) (mTup (mCons (mVar 3) (mCons (mVar 4) mNil))))) mSkip))))
    (mRet (mTup (mCons (mOp oIx (mVar 0) (mC (.int 0))) (mCons (mFn oTuple (mCons (mVar 2) mNil)) mNil))))))
def B_Law (cl : Fid → FC) : FS :=
    (mMu 1 g_Lcup (mCons (mVar 0) mNil) (mSeq (mForR rng1 (mCons (mC (.int 12)) mNil) (tgName 2) (mSeq (mAsg (mCall (cl .Lsome) (mCons (mVar 1) (mCons (mLst (mCons (mC (.int 1)) (mCons (mC (.int 2)) (mCons (mC (.int 2)) (mCons (mC (.int 3)) mNil))))) mNil))) (tgName 3))
    (mSeq (mPar2 4 5 (mCons (mCall (cl .Lcompany) (mCons (mVar 1) (mCons (mVar 3) (mCons (mC (.int 0)) (mCons (mC (.int 6)) mNil))))) (mCons (mCall (cl .Ldeed) (mCons (mVar 1) (mCons (mVar 3) mNil))) mNil)))
    (mIfS (mB (mOp oNe (mCall (cl .p_done) (mCons (mVar 3) (mCons (mVar 4) (mCons (mTup (mCons (mVar 5) mNil)) mNil)))) (mCall (cl .Lbehind) (mCons (mVar 4) (mCons (mVar 5) mNil))))) (mRet (mC (.bl false))) mSkip))))
    (mSeq (mAsg (mTup (mCons (mTup (mCons (mC (.int 4)) (mCons (mTup (mCons (mTup (mCons (mC (.int 0)) (mCons (mC (.int 2)) mNil))) (mCons (mTup (mCons (mC (.int 1)) (mCons (mC (.int 3)) mNil))) mNil))) mNil))) (mCons (mTup (mCons (mC (.int 4)) (mCons (mTup (mCons (mTup (mCons (mC (.int 0)) (mCons (mC (.int 1)) mNil))) (mCons (mTup (mCons (mC (.int 0)) (mCons (mC (.int 2)) mNil))) (mCons (mTup (mCons (mC (.int 0)) (mCons (mC (.int 3)) mNil))) (mCons (mTup (mCons (mC (.int 1)) (mCons (mC (.int 2)) mNil))) (mCons (mTup (mCons (mC (.int 1)) (mCons (mC (.int 3)) mNil))) (mCons (mTup (mCons (mC (.int 2)) (mCons (mC (.int 3)) mNil))) mNil))))))) mNil))) mNil))) (tgTup 2 (tgCons (tgName 6) (tgCons (tgName 7) tgNil))))
    (mSeq (mAsg (mLst (mCons (mTup (mCons (mC (.int 2)) (mCons (mVar 6) (mCons (mTup (mCons (mC (.str "takes")) (mCons (mC (.int 0)) (mCons (mC (.int 1)) (mCons (mTup (mCons (mC (.int 0)) (mCons (mC (.int 1)) (mCons (mC (.int 1)) (mCons (mC (.int 0)) mNil))))) mNil))))) (mCons (mTup (mCons (mTup (mCons (mC (.int 0)) (mCons (mC (.int 2)) mNil))) (mCons (mTup (mCons (mC (.int 0)) (mCons (mC (.int 3)) mNil))) (mCons (mTup (mCons (mC (.int 1)) (mCons (mC (.int 3)) mNil))) mNil)))) mNil))))) (mCons (mTup (mCons (mC (.int 2)) (mCons (mVar 6) (mCons (mTup (mCons (mC (.str "takes")) (mCons (mC (.int 1)) (mCons (mC (.int 0)) (mCons (mTup (mCons (mC (.int 0)) (mCons (mC (.int 1)) (mCons (mC (.int 0)) (mCons (mC (.int 1)) mNil))))) mNil))))) (mCons (mTup (mCons (mTup (mCons (mC (.int 0)) (mCons (mC (.int 2)) mNil))) (mCons (mTup (mCons (mC (.int 1)) (mCons (mC (.int 2)) mNil))) mNil))) mNil))))) mNil))) (tgName 8))
    (mSeq (mAsg (mOp oAdd (mVar 8) (mLst (mCons (mTup (mCons (mC (.int 2)) (mCons (mVar 6) (mCons (mTup (mCons (mC (.str "pairs")) (mCons (mC (.int 0)) (mCons (mTup (mCons (mC (.int 1)) (mCons (mC (.int 0)) (mCons (mC (.int 0)) (mCons (mC (.int 0)) (mCons (mC (.int 0)) (mCons (mC (.int 1)) mNil))))))) mNil)))) (mCons (mTup (mCons (mTup (mCons (mC (.int 0)) (mCons (mC (.int 2)) mNil))) mNil)) mNil))))) (mCons (mTup (mCons (mC (.int 2)) (mCons (mVar 6) (mCons (mTup (mCons (mC (.str "pairs")) (mCons (mC (.int 0)) (mCons (mTup (mCons (mC (.int 0)) (mCons (mC (.int 1)) (mCons (mC (.int 0)) (mCons (mC (.int 1)) (mCons (mC (.int 1)) (mCons (mC (.int 1)) mNil))))))) mNil)))) (mCons (mTup (mCons (mTup (mCons (mC (.int 0)) (mCons (mC (.int 2)) mNil))) (mCons (mTup (mCons (mC (.int 1)) (mCons (mC (.int 2)) mNil))) (mCons (mTup (mCons (mC (.int 1)) (mCons (mC (.int 3)) mNil))) (mCons (mTup (mCons (mC (.int 2)) (mCons (mC (.int 3)) mNil))) mNil))))) mNil))))) mNil)))) (tgName 8))
    (mSeq (mAsg (mOp oAdd (mVar 8) (mLst (mCons (mTup (mCons (mC (.int 2)) (mCons (mVar 6) (mCons (mTup (mCons (mC (.str "pairs")) (mCons (mC (.int 1)) (mCons (mTup (mCons (mC (.int 1)) (mCons (mC (.int 0)) (mCons (mC (.int 0)) (mCons (mC (.int 0)) (mCons (mC (.int 0)) (mCons (mC (.int 0)) mNil))))))) mNil)))) (mCons (mTup (mCons (mTup (mCons (mC (.int 1)) (mCons (mC (.int 3)) mNil))) mNil)) mNil))))) (mCons (mTup (mCons (mC (.int 1)) (mCons (mVar 6) (mCons (mTup (mCons (mC (.str "pairs")) (mCons (mC (.int 0)) (mCons (mTup (mCons (mC (.int 1)) (mCons (mC (.int 1)) (mCons (mC (.int 1)) (mCons (mC (.int 0)) (mCons (mC (.int 0)) (mCons (mC (.int 0)) mNil))))))) mNil)))) (mCons (mTup (mCons (mTup (mCons (mC (.int 0)) (mCons (mC (.int 2)) mNil))) (mCons (mTup (mCons (mC (.int 1)) (mCons (mC (.int 2)) mNil))) (mCons (mTup (mCons (mC (.int 2)) (mCons (mC (.int 3)) mNil))) mNil)))) mNil))))) mNil)))) (tgName 8))
    (mSeq (mAsg (mOp oAdd (mVar 8) (mLst (mCons (mTup (mCons (mC (.int 2)) (mCons (mVar 6) (mCons (mTup (mCons (mC (.str "tie")) (mCons (mC (.int 0)) (mCons (mC (.int 1)) (mCons (mC (.str "know")) mNil))))) (mCons (mTup (mCons (mTup (mCons (mC (.int 0)) (mCons (mC (.int 1)) mNil))) (mCons (mTup (mCons (mC (.int 0)) (mCons (mC (.int 2)) mNil))) (mCons (mTup (mCons (mC (.int 1)) (mCons (mC (.int 3)) mNil))) mNil)))) mNil))))) (mCons (mTup (mCons (mC (.int 2)) (mCons (mVar 6) (mCons (mTup (mCons (mC (.str "tie")) (mCons (mC (.int 1)) (mCons (mC (.int 0)) (mCons (mC (.str "turn")) mNil))))) (mCons (mTup (mCons (mTup (mCons (mC (.int 0)) (mCons (mC (.int 1)) mNil))) (mCons (mTup (mCons (mC (.int 0)) (mCons (mC (.int 2)) mNil))) (mCons (mTup (mCons (mC (.int 1)) (mCons (mC (.int 3)) mNil))) mNil)))) mNil))))) (mCons (mTup (mCons (mC (.int 2)) (mCons (mVar 6) (mCons (mTup (mCons (mC (.str "tie")) (mCons (mC (.int 0)) (mCons (mC (.int 1)) (mCons (mC (.str "part")) mNil))))) (mCons (mTup (mCons (mTup (mCons (mC (.int 0)) (mCons (mC (.int 2)) mNil))) (mCons (mTup (mCons (mC (.int 1)) (mCons (mC (.int 3)) mNil))) mNil))) mNil))))) mNil))))) (tgName 8))
    (mSeq (mAsg (mOp oAdd (mVar 8) (mLst (mCons (mTup (mCons (mC (.int 3)) (mCons (mVar 6) (mCons (mTup (mCons (mC (.str "takes")) (mCons (mC (.int 0)) (mCons (mC (.int 1)) (mCons (mTup (mCons (mC (.int 1)) (mCons (mC (.int 1)) (mCons (mC (.int 0)) (mCons (mC (.int 0)) mNil))))) mNil))))) (mCons (mTup (mCons (mTup (mCons (mC (.int 0)) (mCons (mC (.int 3)) mNil))) (mCons (mTup (mCons (mC (.int 1)) (mCons (mC (.int 3)) mNil))) mNil))) mNil))))) (mCons (mTup (mCons (mC (.int 3)) (mCons (mVar 6) (mCons (mTup (mCons (mC (.str "pairs")) (mCons (mC (.int 2)) (mCons (mTup (mCons (mC (.int 0)) (mCons (mC (.int 0)) (mCons (mC (.int 0)) (mCons (mC (.int 0)) (mCons (mC (.int 1)) (mCons (mC (.int 0)) mNil))))))) mNil)))) (mCons (mTup (mCons (mTup (mCons (mC (.int 0)) (mCons (mC (.int 2)) mNil))) mNil)) mNil))))) (mCons (mTup (mCons (mC (.int 3)) (mCons (mVar 6) (mCons (mTup (mCons (mC (.str "tie")) (mCons (mC (.int 2)) (mCons (mC (.int 0)) (mCons (mC (.str "turn")) mNil))))) (mCons (mTup (mCons (mTup (mCons (mC (.int 1)) (mCons (mC (.int 3)) mNil))) mNil)) mNil))))) mNil))))) (tgName 8))
    (mSeq (mAsg (mOp oAdd (mVar 8) (mLst (mCons (mTup (mCons (mC (.int 2)) (mCons (mVar 7) (mCons (mTup (mCons (mC (.str "pairs")) (mCons (mC (.int 0)) (mCons (mTup (mCons (mC (.int 1)) (mCons (mC (.int 1)) (mCons (mC (.int 1)) (mCons (mC (.int 1)) (mCons (mC (.int 1)) (mCons (mC (.int 0)) mNil))))))) mNil)))) (mCons (mTup (mCons (mTup (mCons (mC (.int 0)) (mCons (mC (.int 1)) mNil))) (mCons (mTup (mCons (mC (.int 0)) (mCons (mC (.int 2)) mNil))) (mCons (mTup (mCons (mC (.int 0)) (mCons (mC (.int 3)) mNil))) mNil)))) mNil))))) (mCons (mTup (mCons (mC (.int 2)) (mCons (mVar 7) (mCons (mTup (mCons (mC (.str "takes")) (mCons (mC (.int 0)) (mCons (mC (.int 1)) (mCons (mTup (mCons (mC (.int 1)) (mCons (mC (.int 1)) (mCons (mC (.int 1)) (mCons (mC (.int 0)) mNil))))) mNil))))) (mCons (mTup (mCons (mTup (mCons (mC (.int 0)) (mCons (mC (.int 1)) mNil))) (mCons (mTup (mCons (mC (.int 1)) (mCons (mC (.int 2)) mNil))) (mCons (mTup (mCons (mC (.int 1)) (mCons (mC (.int 3)) mNil))) (mCons (mTup (mCons (mC (.int 2)) (mCons (mC (.int 3)) mNil))) mNil))))) mNil))))) mNil)))) (tgName 8))
    (mSeq (mIfS (mB (mOp oNe (mLc itemsL (mVar 8) (tgTup 4 (tgCons (tgName 3) (tgCons (tgName 4) (tgCons (tgName 5) (tgCons (tgName 9) tgNil))))) (mB (mOp oNe (mCall (cl .p_done) (mCons (mVar 3) (mCons (mVar 4) (mCons (mTup (mCons (mVar 5) mNil)) mNil)))) (mTup (mCons (mC (.int 4)) (mCons (mVar 9) mNil))))) (mC (.int 1)) [3, 4, 5, 9]) (mLst mNil))) (mRet (mC (.bl false))) mSkip)
    (mSeq (mIfS (mB (mOr (mOp oNe (mCall (cl .p_done) (mCons (mC (.int 1)) (mCons (mTup (mCons (mC (.int 1)) (mCons (mTup mNil) mNil))) (mCons (mTup (mCons (mTup (mCons (mC (.str "pairs")) (mCons (mC (.int 0)) (mCons (mOp oMul (mTup (mCons (mC (.int 1)) mNil)) (mC (.int 6))) mNil)))) mNil)) mNil)))) (mTup (mCons (mC (.int 1)) (mCons (mTup mNil) mNil)))) (mOp oNe (mCall (cl .p_done) (mCons (mC (.int 1)) (mCons (mTup (mCons (mC (.int 2)) (mCons (mTup mNil) mNil))) (mCons (mTup (mCons (mTup (mCons (mC (.str "pairs")) (mCons (mC (.int 0)) (mCons (mOp oMul (mTup (mCons (mC (.int 1)) mNil)) (mC (.int 6))) mNil)))) mNil)) mNil)))) (mTup (mCons (mC (.int 2)) (mCons (mTup mNil) mNil)))))) (mRet (mC (.bl false))) mSkip)
    (mSeq (mIfS (mB (mOr (mOp oNe (mCall (cl .p_done) (mCons (mC (.int 2)) (mCons (mTup (mCons (mC (.int 2)) (mCons (mTup mNil) mNil))) (mCons (mTup (mCons (mTup (mCons (mC (.str "takes")) (mCons (mC (.int 0)) (mCons (mC (.int 1)) (mCons (mOp oMul (mTup (mCons (mC (.int 1)) mNil)) (mC (.int 4))) mNil))))) mNil)) mNil)))) (mTup (mCons (mC (.int 2)) (mCons (mTup mNil) mNil)))) (mOp oNe (mCall (cl .p_done) (mCons (mC (.int 2)) (mCons (mTup (mCons (mC (.int 3)) (mCons (mTup mNil) mNil))) (mCons (mTup (mCons (mTup (mCons (mC (.str "pairs")) (mCons (mC (.int 1)) (mCons (mOp oMul (mTup (mCons (mC (.int 1)) mNil)) (mC (.int 6))) mNil)))) mNil)) mNil)))) (mTup (mCons (mC (.int 3)) (mCons (mTup (mCons (mTup (mCons (mC (.int 0)) (mCons (mC (.int 2)) mNil))) mNil)) mNil)))))) (mRet (mC (.bl false))) mSkip)
    (mRet (mOp oEq (mCall (cl .p_done) (mCons (mC (.int 1)) (mCons (mTup (mCons (mC (.int 4)) (mCons (mTup (mCons (mTup (mCons (mC (.int 0)) (mCons (mC (.int 1)) mNil))) (mCons (mTup (mCons (mC (.int 0)) (mCons (mC (.int 2)) mNil))) mNil))) mNil))) (mCons (mTup (mCons (mTup (mCons (mC (.str "pairs")) (mCons (mC (.int 0)) (mCons (mTup (mCons (mC (.int 0)) (mCons (mC (.int 1)) (mCons (mC (.int 0)) (mCons (mC (.int 0)) (mCons (mC (.int 0)) (mCons (mC (.int 0)) mNil))))))) mNil)))) mNil)) mNil)))) (mTup (mCons (mC (.int 4)) (mCons (mTup (mCons (mTup (mCons (mC (.int 0)) (mCons (mC (.int 1)) mNil))) (mCons (mTup (mCons (mC (.int 0)) (mCons (mC (.int 2)) mNil))) (mCons (mTup (mCons (mC (.int 1)) (mCons (mC (.int 3)) mNil))) (mCons (mTup (mCons (mC (.int 2)) (mCons (mC (.int 3)) mNil))) mNil))))) mNil)))))))))))))))))
def bodies (cB : Addr) (cl : Fid → FC) : Fid → FC
  | .p_pairs_of => mFun 3 (B_p_pairs_of cl)
  | .p_pair_of => mFun 2 (B_p_pair_of cl)
  | .Bundle_knowing => mFun 3 (B_Bundle_knowing cB cl)
  | .Bundle_with_ties => mFun 4 (B_Bundle_with_ties cB cl)
  | .p_bundle_of => mFun 7 (B_p_bundle_of cl)
  | .p_company_in => mFun 2 (B_p_company_in cB cl)
  | .p_answered => mFun 9 (B_p_answered cl)
  | .p_pairs_done => mFun 10 (B_p_pairs_done cB cl)
  | .p_takes_done => mFun 9 (B_p_takes_done cB cl)
  | .p_tie_done => mFun 5 (B_p_tie_done cB cl)
  | .p_deed_done => mFun 2 (B_p_deed_done cl)
  | .p_choice_done => mFun 7 (B_p_choice_done cB cl)
  | .p_items_done => mFun 3 (B_p_items_done cl)
  | .p_company_done => mFun 2 (B_p_company_done cl)
  | .p_is_integer => mFun 1 (B_p_is_integer cl)
  | .p_is_between => mFun 3 (B_p_is_between cl)
  | .p_is_tuple_of => mFun 2 (B_p_is_tuple_of cl)
  | .p_is_ascending => mFun 2 (B_p_is_ascending cl)
  | .p_is_pair_of => mFun 4 (B_p_is_pair_of cl)
  | .p_are_ties_of => mFun 3 (B_p_are_ties_of cl)
  | .p_is_company_of => mFun 4 (B_p_is_company_of cl)
  | .p_are_answers => mFun 3 (B_p_are_answers cl)
  | .p_are_two_named => mFun 3 (B_p_are_two_named cl)
  | .p_is_deed_of => mFun 2 (B_p_is_deed_of cl)
  | .p_is_asking => mFun 2 (B_p_is_asking cl)
  | .p_left_behind => mFun 5 (B_p_left_behind cl)
  | .p_left_behind_item => mFun 4 (B_p_left_behind_item cl)
  | .p_is_script_of => mFun 2 (B_p_is_script_of cl)
  | .p_check_named => mFun 1 (B_p_check_named cl)
  | .p_check_company => mFun 2 (B_p_check_company cl)
  | .p_check_script => mFun 2 (B_p_check_script cl)
  | .p_done => mFun 3 (B_p_done cl)
  | .Lroll => mFun 4 (B_Lroll cl)
  | .Lsome => mFun 2 (B_Lsome cl)
  | .Lpairs => mFun 4 (B_Lpairs cl)
  | .Lcompany => mFun 7 (B_Lcompany cl)
  | .Lanswers => mFun 3 (B_Lanswers cl)
  | .Ldeed => mFun 6 (B_Ldeed cl)
  | .Ltwo => mFun 2 (B_Ltwo cl)
  | .Lknows => mFun 3 (B_Lknows cl)
  | .Lbehind => mFun 9 (B_Lbehind cl)
  | .mkA => fun _ _ => some (.non, [])
  | .mk_Bundle => fun ds M => match cl .mkA [] [] with
    | some _ => mkC cB ["people", "full", "ties"] ds M
    | none => none
/-- the mirror, so many calls deep -/
def G (cB : Addr) : Nat → Fid → FC
  | 0, _ => fun _ _ => none
  | n + 1, f => bodies cB (G cB n) f
def gLaw (cB : Addr) (n : Nat) : FC := mFun 10 (B_Law (G cB n))
end MT

/-! each def keeps to its mirror -/
namespace MT
open PySem PySem.Spec PyProof.Rows L2 NL
/-- what the top has left -/
structure Tx (K : PySem.W.Frag) (mg : Str → Option Value) where
  a_p_pairs_of : Addr
  d_p_pairs_of : FuncData
  F_p_pairs_of : Fun K "pairs_of" "pairs_of" s_p_pairs_of a_p_pairs_of d_p_pairs_of
  g_p_pairs_of : mg "pairs_of" = some (.ref a_p_pairs_of)
  b_p_pairs_of : Binds K d_p_pairs_of ["people"] []
  a_p_pair_of : Addr
  d_p_pair_of : FuncData
  F_p_pair_of : Fun K "pair_of" "pair_of" s_p_pair_of a_p_pair_of d_p_pair_of
  g_p_pair_of : mg "pair_of" = some (.ref a_p_pair_of)
  b_p_pair_of : Binds K d_p_pair_of ["one", "other"] []
  a_Bundle___init__ : Addr
  d_Bundle___init__ : FuncData
  F_Bundle___init__ : Fun K "__init__" "Bundle.__init__" s_Bundle___init__ a_Bundle___init__ d_Bundle___init__
  b_Bundle___init__ : Binds K d_Bundle___init__ ["self", "people", "full", "ties"] []
  a_Bundle_knowing : Addr
  d_Bundle_knowing : FuncData
  F_Bundle_knowing : Fun K "knowing" "Bundle.knowing" s_Bundle_knowing a_Bundle_knowing d_Bundle_knowing
  b_Bundle_knowing : Binds K d_Bundle_knowing ["self", "one", "other"] []
  a_Bundle_with_ties : Addr
  d_Bundle_with_ties : FuncData
  F_Bundle_with_ties : Fun K "with_ties" "Bundle.with_ties" s_Bundle_with_ties a_Bundle_with_ties d_Bundle_with_ties
  b_Bundle_with_ties : Binds K d_Bundle_with_ties ["self", "told"] []
  a_p_bundle_of : Addr
  d_p_bundle_of : FuncData
  F_p_bundle_of : Fun K "bundle_of" "bundle_of" s_p_bundle_of a_p_bundle_of d_p_bundle_of
  g_p_bundle_of : mg "bundle_of" = some (.ref a_p_bundle_of)
  b_p_bundle_of : Binds K d_p_bundle_of ["companies"] []
  a_p_company_in : Addr
  d_p_company_in : FuncData
  F_p_company_in : Fun K "company_in" "company_in" s_p_company_in a_p_company_in d_p_company_in
  g_p_company_in : mg "company_in" = some (.ref a_p_company_in)
  b_p_company_in : Binds K d_p_company_in ["bundle", "index"] []
  a_p_answered : Addr
  d_p_answered : FuncData
  F_p_answered : Fun K "answered" "answered" s_p_answered a_p_answered d_p_answered
  g_p_answered : mg "answered" = some (.ref a_p_answered)
  b_p_answered : Binds K d_p_answered ["answers", "asked", "also"] []
  a_p_pairs_done : Addr
  d_p_pairs_done : FuncData
  F_p_pairs_done : Fun K "pairs_done" "pairs_done" s_p_pairs_done a_p_pairs_done d_p_pairs_done
  g_p_pairs_done : mg "pairs_done" = some (.ref a_p_pairs_done)
  b_p_pairs_done : Binds K d_p_pairs_done ["bundle", "doer", "answers"] []
  a_p_takes_done : Addr
  d_p_takes_done : FuncData
  F_p_takes_done : Fun K "takes_done" "takes_done" s_p_takes_done a_p_takes_done d_p_takes_done
  g_p_takes_done : mg "takes_done" = some (.ref a_p_takes_done)
  b_p_takes_done : Binds K d_p_takes_done ["bundle", "one", "other", "answers"] []
  a_p_tie_done : Addr
  d_p_tie_done : FuncData
  F_p_tie_done : Fun K "tie_done" "tie_done" s_p_tie_done a_p_tie_done d_p_tie_done
  g_p_tie_done : mg "tie_done" = some (.ref a_p_tie_done)
  b_p_tie_done : Binds K d_p_tie_done ["bundle", "one", "other", "word"] []
  a_p_deed_done : Addr
  d_p_deed_done : FuncData
  F_p_deed_done : Fun K "deed_done" "deed_done" s_p_deed_done a_p_deed_done d_p_deed_done
  g_p_deed_done : mg "deed_done" = some (.ref a_p_deed_done)
  b_p_deed_done : Binds K d_p_deed_done ["bundle", "deed"] []
  a_p_choice_done : Addr
  d_p_choice_done : FuncData
  F_p_choice_done : Fun K "choice_done" "choice_done" s_p_choice_done a_p_choice_done d_p_choice_done
  g_p_choice_done : mg "choice_done" = some (.ref a_p_choice_done)
  b_p_choice_done : Binds K d_p_choice_done ["bundle", "choice"] []
  a_p_items_done : Addr
  d_p_items_done : FuncData
  F_p_items_done : Fun K "items_done" "items_done" s_p_items_done a_p_items_done d_p_items_done
  g_p_items_done : mg "items_done" = some (.ref a_p_items_done)
  b_p_items_done : Binds K d_p_items_done ["bundle", "items"] []
  a_p_company_done : Addr
  d_p_company_done : FuncData
  F_p_company_done : Fun K "company_done" "company_done" s_p_company_done a_p_company_done d_p_company_done
  g_p_company_done : mg "company_done" = some (.ref a_p_company_done)
  b_p_company_done : Binds K d_p_company_done ["company", "items"] []
  a_p_is_integer : Addr
  d_p_is_integer : FuncData
  F_p_is_integer : Fun K "is_integer" "is_integer" s_p_is_integer a_p_is_integer d_p_is_integer
  g_p_is_integer : mg "is_integer" = some (.ref a_p_is_integer)
  b_p_is_integer : Binds K d_p_is_integer ["value"] []
  a_p_is_between : Addr
  d_p_is_between : FuncData
  F_p_is_between : Fun K "is_between" "is_between" s_p_is_between a_p_is_between d_p_is_between
  g_p_is_between : mg "is_between" = some (.ref a_p_is_between)
  b_p_is_between : Binds K d_p_is_between ["value", "least", "most"] []
  a_p_is_tuple_of : Addr
  d_p_is_tuple_of : FuncData
  F_p_is_tuple_of : Fun K "is_tuple_of" "is_tuple_of" s_p_is_tuple_of a_p_is_tuple_of d_p_is_tuple_of
  g_p_is_tuple_of : mg "is_tuple_of" = some (.ref a_p_is_tuple_of)
  b_p_is_tuple_of : Binds K d_p_is_tuple_of ["value", "many"] []
  a_p_is_ascending : Addr
  d_p_is_ascending : FuncData
  F_p_is_ascending : Fun K "is_ascending" "is_ascending" s_p_is_ascending a_p_is_ascending d_p_is_ascending
  g_p_is_ascending : mg "is_ascending" = some (.ref a_p_is_ascending)
  b_p_is_ascending : Binds K d_p_is_ascending ["values"] []
  a_p_is_pair_of : Addr
  d_p_is_pair_of : FuncData
  F_p_is_pair_of : Fun K "is_pair_of" "is_pair_of" s_p_is_pair_of a_p_is_pair_of d_p_is_pair_of
  g_p_is_pair_of : mg "is_pair_of" = some (.ref a_p_is_pair_of)
  b_p_is_pair_of : Binds K d_p_is_pair_of ["people", "value"] []
  a_p_are_ties_of : Addr
  d_p_are_ties_of : FuncData
  F_p_are_ties_of : Fun K "are_ties_of" "are_ties_of" s_p_are_ties_of a_p_are_ties_of d_p_are_ties_of
  g_p_are_ties_of : mg "are_ties_of" = some (.ref a_p_are_ties_of)
  b_p_are_ties_of : Binds K d_p_are_ties_of ["people", "value"] []
  a_p_is_company_of : Addr
  d_p_is_company_of : FuncData
  F_p_is_company_of : Fun K "is_company_of" "is_company_of" s_p_is_company_of a_p_is_company_of d_p_is_company_of
  g_p_is_company_of : mg "is_company_of" = some (.ref a_p_is_company_of)
  b_p_is_company_of : Binds K d_p_is_company_of ["named", "value"] []
  a_p_are_answers : Addr
  d_p_are_answers : FuncData
  F_p_are_answers : Fun K "are_answers" "are_answers" s_p_are_answers a_p_are_answers d_p_are_answers
  g_p_are_answers : mg "are_answers" = some (.ref a_p_are_answers)
  b_p_are_answers : Binds K d_p_are_answers ["value", "many"] []
  a_p_are_two_named : Addr
  d_p_are_two_named : FuncData
  F_p_are_two_named : Fun K "are_two_named" "are_two_named" s_p_are_two_named a_p_are_two_named d_p_are_two_named
  g_p_are_two_named : mg "are_two_named" = some (.ref a_p_are_two_named)
  b_p_are_two_named : Binds K d_p_are_two_named ["named", "one", "other"] []
  a_p_is_deed_of : Addr
  d_p_is_deed_of : FuncData
  F_p_is_deed_of : Fun K "is_deed_of" "is_deed_of" s_p_is_deed_of a_p_is_deed_of d_p_is_deed_of
  g_p_is_deed_of : mg "is_deed_of" = some (.ref a_p_is_deed_of)
  b_p_is_deed_of : Binds K d_p_is_deed_of ["named", "value"] []
  a_p_is_asking : Addr
  d_p_is_asking : FuncData
  F_p_is_asking : Fun K "is_asking" "is_asking" s_p_is_asking a_p_is_asking d_p_is_asking
  g_p_is_asking : mg "is_asking" = some (.ref a_p_is_asking)
  b_p_is_asking : Binds K d_p_is_asking ["named", "value"] []
  a_p_left_behind : Addr
  d_p_left_behind : FuncData
  F_p_left_behind : Fun K "left_behind" "left_behind" s_p_left_behind a_p_left_behind d_p_left_behind
  g_p_left_behind : mg "left_behind" = some (.ref a_p_left_behind)
  b_p_left_behind : Binds K d_p_left_behind ["named", "value", "depth", "left"] []
  a_p_left_behind_item : Addr
  d_p_left_behind_item : FuncData
  F_p_left_behind_item : Fun K "left_behind_item" "left_behind_item" s_p_left_behind_item a_p_left_behind_item d_p_left_behind_item
  g_p_left_behind_item : mg "left_behind_item" = some (.ref a_p_left_behind_item)
  b_p_left_behind_item : Binds K d_p_left_behind_item ["named", "item", "depth", "left"] []
  a_p_is_script_of : Addr
  d_p_is_script_of : FuncData
  F_p_is_script_of : Fun K "is_script_of" "is_script_of" s_p_is_script_of a_p_is_script_of d_p_is_script_of
  g_p_is_script_of : mg "is_script_of" = some (.ref a_p_is_script_of)
  b_p_is_script_of : Binds K d_p_is_script_of ["named", "value"] []
  a_p_check_named : Addr
  d_p_check_named : FuncData
  F_p_check_named : Fun K "check_named" "check_named" s_p_check_named a_p_check_named d_p_check_named
  g_p_check_named : mg "check_named" = some (.ref a_p_check_named)
  b_p_check_named : Binds K d_p_check_named ["named"] []
  a_p_check_company : Addr
  d_p_check_company : FuncData
  F_p_check_company : Fun K "check_company" "check_company" s_p_check_company a_p_check_company d_p_check_company
  g_p_check_company : mg "check_company" = some (.ref a_p_check_company)
  b_p_check_company : Binds K d_p_check_company ["named", "company"] []
  a_p_check_script : Addr
  d_p_check_script : FuncData
  F_p_check_script : Fun K "check_script" "check_script" s_p_check_script a_p_check_script d_p_check_script
  g_p_check_script : mg "check_script" = some (.ref a_p_check_script)
  b_p_check_script : Binds K d_p_check_script ["named", "script"] []
  a_p_done : Addr
  d_p_done : FuncData
  F_p_done : Fun K "done" "done" s_p_done a_p_done d_p_done
  g_p_done : mg "done" = some (.ref a_p_done)
  b_p_done : Binds K d_p_done ["named", "company", "script"] []
  a_Lcup : Addr
  d_Lcup : FuncData
  F_Lcup : Fun K "_law_cup" "_law_cup" s_Lcup a_Lcup d_Lcup
  g_Lcup : mg "_law_cup" = some (.ref a_Lcup)
  b_Lcup : Binds K d_Lcup ["_law_script"] []
  a_Lroll : Addr
  d_Lroll : FuncData
  F_Lroll : Fun K "_law_roll" "_law_roll" s_Lroll a_Lroll d_Lroll
  g_Lroll : mg "_law_roll" = some (.ref a_Lroll)
  b_Lroll : Binds K d_Lroll ["_law_cup_here", "_law_many"] []
  a_Lsome : Addr
  d_Lsome : FuncData
  F_Lsome : Fun K "_law_some" "_law_some" s_Lsome a_Lsome d_Lsome
  g_Lsome : mg "_law_some" = some (.ref a_Lsome)
  b_Lsome : Binds K d_Lsome ["_law_cup_here", "_law_things"] []
  a_Lpairs : Addr
  d_Lpairs : FuncData
  F_Lpairs : Fun K "_law_pairs" "_law_pairs" s_Lpairs a_Lpairs d_Lpairs
  g_Lpairs : mg "_law_pairs" = some (.ref a_Lpairs)
  b_Lpairs : Binds K d_Lpairs ["_law_people"] []
  a_Lcompany : Addr
  d_Lcompany : FuncData
  F_Lcompany : Fun K "_law_company" "_law_company" s_Lcompany a_Lcompany d_Lcompany
  g_Lcompany : mg "_law_company" = some (.ref a_Lcompany)
  b_Lcompany : Binds K d_Lcompany ["_law_cup_here", "_law_named", "_law_least", "_law_most"] []
  a_Lanswers : Addr
  d_Lanswers : FuncData
  F_Lanswers : Fun K "_law_answers" "_law_answers" s_Lanswers a_Lanswers d_Lanswers
  g_Lanswers : mg "_law_answers" = some (.ref a_Lanswers)
  b_Lanswers : Binds K d_Lanswers ["_law_cup_here", "_law_many"] []
  a_Ldeed : Addr
  d_Ldeed : FuncData
  F_Ldeed : Fun K "_law_deed" "_law_deed" s_Ldeed a_Ldeed d_Ldeed
  g_Ldeed : mg "_law_deed" = some (.ref a_Ldeed)
  b_Ldeed : Binds K d_Ldeed ["_law_cup_here", "_law_named"] []
  a_Ltwo : Addr
  d_Ltwo : FuncData
  F_Ltwo : Fun K "_law_two" "_law_two" s_Ltwo a_Ltwo d_Ltwo
  g_Ltwo : mg "_law_two" = some (.ref a_Ltwo)
  b_Ltwo : Binds K d_Ltwo ["_law_one", "_law_other"] []
  a_Lknows : Addr
  d_Lknows : FuncData
  F_Lknows : Fun K "_law_knows" "_law_knows" s_Lknows a_Lknows d_Lknows
  g_Lknows : mg "_law_knows" = some (.ref a_Lknows)
  b_Lknows : Binds K d_Lknows ["_law_company_here", "_law_one", "_law_other"] []
  a_Lbehind : Addr
  d_Lbehind : FuncData
  F_Lbehind : Fun K "_law_behind" "_law_behind" s_Lbehind a_Lbehind d_Lbehind
  g_Lbehind : mg "_law_behind" = some (.ref a_Lbehind)
  b_Lbehind : Binds K d_Lbehind ["_law_company_here", "_law_deed_here"] []
  a_Law : Addr
  d_Law : FuncData
  F_Law : Fun K "law" "law" s_Law a_Law d_Law
  g_Law : mg "law" = some (.ref a_Law)
  b_Law : Binds K d_Law ["_law_script"] []
  a_Bundle : Addr
  m_Bundle : mg "Bundle" = some (.ref a_Bundle)
  cl_Bundle : Cls K a_Bundle
  mk_Bundle : Mk K a_Bundle a_Bundle___init__
  na_people : NoAttr K a_Bundle "people"
  na_full : NoAttr K a_Bundle "full"
  na_ties : NoAttr K a_Bundle "ties"
  me_knowing : Meth K a_Bundle "knowing" a_Bundle_knowing
  me_with_ties : Meth K a_Bundle "with_ties" a_Bundle_with_ties
  z_abs : mg "abs" = none
  z_all : mg "all" = none
  z_bool : mg "bool" = none
  z_enumerate : mg "enumerate" = none
  z_int : mg "int" = none
  z_isinstance : mg "isinstance" = none
  z_len : mg "len" = none
  z_list : mg "list" = none
  z_range : mg "range" = none
  z_tuple : mg "tuple" = none
  z_zip : mg "zip" = none
  t_MOST_DEPTH : Tok
  c_MOST_DEPTH : mg "MOST_DEPTH" = some (.int 4 t_MOST_DEPTH)
  t_MOST_ITEMS : Tok
  c_MOST_ITEMS : mg "MOST_ITEMS" = some (.int 30 t_MOST_ITEMS)
  t_MOST_NAMED : Tok
  c_MOST_NAMED : mg "MOST_NAMED" = some (.int 3 t_MOST_NAMED)
  t_MOST_PEOPLE : Tok
  c_MOST_PEOPLE : mg "MOST_PEOPLE" = some (.int 9 t_MOST_PEOPLE)
  a_WORDS : Addr
  c_WORDS : mg "WORDS" = some (.ref a_WORDS)
  r_WORDS : ∀ H ms ex, RV K H ms ex (.ref a_WORDS) (.ct [(.str "know"), (.str "part"), (.str "turn")])
  kc_p_company_in : Addr
  kt_p_company_in : Addr
  h_p_company_in : ∃ (oc : Value) (od : Option Addr) (kV doc pm : Value) (an : Option Addr) (ct : Value) (osl : Array (Option Value)), d_p_company_in = PySem.W.fnOf "company_in" "company_in" (defArgs s_p_company_in) (defBody s_p_company_in) (defScope s_p_company_in) .none kV doc pm an (.ref kc_p_company_in) ct ∧ K.lookup a_p_company_in = some ⟨oc, od, .func d_p_company_in, osl⟩ ∧ PySem.W.codeIn K (.ref kc_p_company_in) "company_in" = true
section
variable {P : Program} {w : World} {K : PySem.W.Frag} {mg : Str → Option Value} {base : Heap} {tb : List Addr}
/-- the tables of codes -/
structure Gx (tb : List Addr) (base : Heap) (T : Tx K mg) : Prop where
  tb_p_company_in : GxR.TabB base mg T.kc_p_company_in T.kt_p_company_in
  in_p_company_in : T.kt_p_company_in ∈ tb
/-- the defs that may be called, at a level -/
structure Cl (tb : List Addr) (P : Program) (w : World) (base : Heap) (T : Tx K mg) (k : Nat) (cl : Fid → FC) : Prop where
  p_pairs_of : FnOk P w K mg base CX0 k T.a_p_pairs_of T.d_p_pairs_of ["people"] (spM tb K 1 (cl .p_pairs_of))
  p_pair_of : FnOk P w K mg base CX0 k T.a_p_pair_of T.d_p_pair_of ["one", "other"] (spM tb K 2 (cl .p_pair_of))
  Bundle_knowing : FnOk P w K mg base CX0 k T.a_Bundle_knowing T.d_Bundle_knowing ["self", "one", "other"] (spM tb K 3 (cl .Bundle_knowing))
  Bundle_with_ties : FnOk P w K mg base CX0 k T.a_Bundle_with_ties T.d_Bundle_with_ties ["self", "told"] (spM tb K 2 (cl .Bundle_with_ties))
  p_bundle_of : FnOk P w K mg base CX0 k T.a_p_bundle_of T.d_p_bundle_of ["companies"] (spM tb K 1 (cl .p_bundle_of))
  p_company_in : FnOk P w K mg base CX0 k T.a_p_company_in T.d_p_company_in ["bundle", "index"] (spM tb K 2 (cl .p_company_in))
  p_answered : FnOk P w K mg base CX0 k T.a_p_answered T.d_p_answered ["answers", "asked", "also"] (spM tb K 3 (cl .p_answered))
  p_pairs_done : FnOk P w K mg base CX0 k T.a_p_pairs_done T.d_p_pairs_done ["bundle", "doer", "answers"] (spM tb K 3 (cl .p_pairs_done))
  p_takes_done : FnOk P w K mg base CX0 k T.a_p_takes_done T.d_p_takes_done ["bundle", "one", "other", "answers"] (spM tb K 4 (cl .p_takes_done))
  p_tie_done : FnOk P w K mg base CX0 k T.a_p_tie_done T.d_p_tie_done ["bundle", "one", "other", "word"] (spM tb K 4 (cl .p_tie_done))
  p_deed_done : FnOk P w K mg base CX0 k T.a_p_deed_done T.d_p_deed_done ["bundle", "deed"] (spM tb K 2 (cl .p_deed_done))
  p_choice_done : FnOk P w K mg base CX0 k T.a_p_choice_done T.d_p_choice_done ["bundle", "choice"] (spM tb K 2 (cl .p_choice_done))
  p_items_done : FnOk P w K mg base CX0 k T.a_p_items_done T.d_p_items_done ["bundle", "items"] (spM tb K 2 (cl .p_items_done))
  p_company_done : FnOk P w K mg base CX0 k T.a_p_company_done T.d_p_company_done ["company", "items"] (spM tb K 2 (cl .p_company_done))
  p_is_integer : FnOk P w K mg base CX0 k T.a_p_is_integer T.d_p_is_integer ["value"] (spM tb K 1 (cl .p_is_integer))
  p_is_between : FnOk P w K mg base CX0 k T.a_p_is_between T.d_p_is_between ["value", "least", "most"] (spM tb K 3 (cl .p_is_between))
  p_is_tuple_of : FnOk P w K mg base CX0 k T.a_p_is_tuple_of T.d_p_is_tuple_of ["value", "many"] (spM tb K 2 (cl .p_is_tuple_of))
  p_is_ascending : FnOk P w K mg base CX0 k T.a_p_is_ascending T.d_p_is_ascending ["values"] (spM tb K 1 (cl .p_is_ascending))
  p_is_pair_of : FnOk P w K mg base CX0 k T.a_p_is_pair_of T.d_p_is_pair_of ["people", "value"] (spM tb K 2 (cl .p_is_pair_of))
  p_are_ties_of : FnOk P w K mg base CX0 k T.a_p_are_ties_of T.d_p_are_ties_of ["people", "value"] (spM tb K 2 (cl .p_are_ties_of))
  p_is_company_of : FnOk P w K mg base CX0 k T.a_p_is_company_of T.d_p_is_company_of ["named", "value"] (spM tb K 2 (cl .p_is_company_of))
  p_are_answers : FnOk P w K mg base CX0 k T.a_p_are_answers T.d_p_are_answers ["value", "many"] (spM tb K 2 (cl .p_are_answers))
  p_are_two_named : FnOk P w K mg base CX0 k T.a_p_are_two_named T.d_p_are_two_named ["named", "one", "other"] (spM tb K 3 (cl .p_are_two_named))
  p_is_deed_of : FnOk P w K mg base CX0 k T.a_p_is_deed_of T.d_p_is_deed_of ["named", "value"] (spM tb K 2 (cl .p_is_deed_of))
  p_is_asking : FnOk P w K mg base CX0 k T.a_p_is_asking T.d_p_is_asking ["named", "value"] (spM tb K 2 (cl .p_is_asking))
  p_left_behind : FnOk P w K mg base CX0 k T.a_p_left_behind T.d_p_left_behind ["named", "value", "depth", "left"] (spM tb K 4 (cl .p_left_behind))
  p_left_behind_item : FnOk P w K mg base CX0 k T.a_p_left_behind_item T.d_p_left_behind_item ["named", "item", "depth", "left"] (spM tb K 4 (cl .p_left_behind_item))
  p_is_script_of : FnOk P w K mg base CX0 k T.a_p_is_script_of T.d_p_is_script_of ["named", "value"] (spM tb K 2 (cl .p_is_script_of))
  p_check_named : FnOk P w K mg base CX0 k T.a_p_check_named T.d_p_check_named ["named"] (spM tb K 1 (cl .p_check_named))
  p_check_company : FnOk P w K mg base CX0 k T.a_p_check_company T.d_p_check_company ["named", "company"] (spM tb K 2 (cl .p_check_company))
  p_check_script : FnOk P w K mg base CX0 k T.a_p_check_script T.d_p_check_script ["named", "script"] (spM tb K 2 (cl .p_check_script))
  p_done : FnOk P w K mg base CX0 k T.a_p_done T.d_p_done ["named", "company", "script"] (spM tb K 3 (cl .p_done))
  Lroll : FnOk P w K mg base CX0 k T.a_Lroll T.d_Lroll ["_law_cup_here", "_law_many"] (spM tb K 2 (cl .Lroll))
  Lsome : FnOk P w K mg base CX0 k T.a_Lsome T.d_Lsome ["_law_cup_here", "_law_things"] (spM tb K 2 (cl .Lsome))
  Lpairs : FnOk P w K mg base CX0 k T.a_Lpairs T.d_Lpairs ["_law_people"] (spM tb K 1 (cl .Lpairs))
  Lcompany : FnOk P w K mg base CX0 k T.a_Lcompany T.d_Lcompany ["_law_cup_here", "_law_named", "_law_least", "_law_most"] (spM tb K 4 (cl .Lcompany))
  Lanswers : FnOk P w K mg base CX0 k T.a_Lanswers T.d_Lanswers ["_law_cup_here", "_law_many"] (spM tb K 2 (cl .Lanswers))
  Ldeed : FnOk P w K mg base CX0 k T.a_Ldeed T.d_Ldeed ["_law_cup_here", "_law_named"] (spM tb K 2 (cl .Ldeed))
  Ltwo : FnOk P w K mg base CX0 k T.a_Ltwo T.d_Ltwo ["_law_one", "_law_other"] (spM tb K 2 (cl .Ltwo))
  Lknows : FnOk P w K mg base CX0 k T.a_Lknows T.d_Lknows ["_law_company_here", "_law_one", "_law_other"] (spM tb K 3 (cl .Lknows))
  Lbehind : FnOk P w K mg base CX0 k T.a_Lbehind T.d_Lbehind ["_law_company_here", "_law_deed_here"] (spM tb K 2 (cl .Lbehind))
  mk_Bundle : ∀ ds M r, cl .mk_Bundle ds M = some r → 2 ≤ k ∧ mkC T.a_Bundle ["people", "full", "ties"] ds M = some r
theorem ok_p_pairs_of (T : Tx K mg) (G : Gx tb base T) {k : Nat} {cl : Fid → FC} (C : Cl tb P w base T k cl) : FnOk P w K mg base CX0 (k + 1) T.a_p_pairs_of T.d_p_pairs_of ["people"] (spM tb K 1 (mFun 3 (B_p_pairs_of cl))) :=
  have nd := sc_p_pairs_of.nd
  m_fn T.F_p_pairs_of sc_p_pairs_of fun cdv A outer s H E hr => (mss_one (ms_ret ((pe_lc2 (own := [("one", 1), ("other", 2)]) (vs1 := [2]) rfl nd (pi_range1 (by rfl) T.z_range (ma_cons (me_var (i := 0)) ma_nil)) (blkOk_by (N := n_p_pairs_of) (sc := defScope s_p_pairs_of) (by decide +kernel)) (by decide) (fun _ _ _ _ _ => mw_name (i := 1) (by decide) nd rfl (Or.inl rfl)) (fun _ _ _ _ _ => mts_nil) (fun _ _ _ _ _ => (pi_range2 (by rfl) T.z_range (ma_cons (me_op op_addA s_add (me_var (i := 1)) me_int) (ma_cons (me_var (i := 0)) ma_nil)))) (fun _ _ _ _ _ => mw_name (i := 2) (by decide) nd rfl (Or.inl rfl)) (fun _ _ _ _ _ => mts_nil) (fun _ _ _ _ _ => (me_tup (ma_cons (me_var (i := 1)) (ma_cons (me_var (i := 2)) ma_nil)) (fun r M ds M' h => Nat.le_trans ((ln_cons (ln_cons ln_nil)) r M ds M' h) (by decide))))).weak fun _ _ _ h => mt_lc2 it_R1 it_R2 h)))
theorem ok_p_pair_of (T : Tx K mg) (G : Gx tb base T) {k : Nat} {cl : Fid → FC} (C : Cl tb P w base T k cl) : FnOk P w K mg base CX0 (k + 1) T.a_p_pair_of T.d_p_pair_of ["one", "other"] (spM tb K 2 (mFun 2 (B_p_pair_of cl))) :=
  have nd := sc_p_pair_of.nd
  m_fn T.F_p_pair_of sc_p_pair_of fun cdv A outer s H E hr => (mss_one (ms_ret (me_if (mp_cmp (op_ltX (units0 hr)) s_ltX (me_var (i := 0)) (me_var (i := 1)) (nomark _)) (me_tup (ma_cons (me_var (i := 0)) (ma_cons (me_var (i := 1)) ma_nil)) (fun r M ds M' h => Nat.le_trans ((ln_cons (ln_cons ln_nil)) r M ds M' h) (by decide))) (me_tup (ma_cons (me_var (i := 1)) (ma_cons (me_var (i := 0)) ma_nil)) (fun r M ds M' h => Nat.le_trans ((ln_cons (ln_cons ln_nil)) r M ds M' h) (by decide))))))
theorem ok_Bundle___init__ (T : Tx K mg) {k : Nat} : FnOk P w K mg base CX0 (k + 1) T.a_Bundle___init__ T.d_Bundle___init__ ["self", "people", "full", "ties"] (spI T.a_Bundle ["people", "full", "ties"]) :=
  m_init T.F_Bundle___init__ sc_Bundle___init__ T.cl_Bundle (by intro f hf; simp only [List.mem_cons, List.not_mem_nil, or_false] at hf; rcases hf with rfl | rfl | rfl <;> first | exact T.na_people | exact T.na_full | exact T.na_ties) (by decide) rfl (by decide) fun cdv A outer s H E hr => (.cons (ps_fld (pe_var (i := 0) rfl (by first | exact Or.inl rfl | exact Or.inr (Or.inl rfl) | exact Or.inr (Or.inr rfl))) (pe_var (i := 1) rfl (by first | exact Or.inl rfl | exact Or.inr (Or.inl rfl) | exact Or.inr (Or.inr rfl))) rfl) (.cons (ps_fld (pe_var (i := 0) rfl (by first | exact Or.inl rfl | exact Or.inr (Or.inl rfl) | exact Or.inr (Or.inr rfl))) (pe_var (i := 2) rfl (by first | exact Or.inl rfl | exact Or.inr (Or.inl rfl) | exact Or.inr (Or.inr rfl))) rfl) (.cons (ps_fld (pe_var (i := 0) rfl (by first | exact Or.inl rfl | exact Or.inr (Or.inl rfl) | exact Or.inr (Or.inr rfl))) (pe_var (i := 3) rfl (by first | exact Or.inl rfl | exact Or.inr (Or.inl rfl) | exact Or.inr (Or.inr rfl))) rfl) .nil)))
theorem ok_Bundle_knowing (T : Tx K mg) (G : Gx tb base T) {k : Nat} {cl : Fid → FC} (C : Cl tb P w base T k cl) : FnOk P w K mg base CX0 (k + 1) T.a_Bundle_knowing T.d_Bundle_knowing ["self", "one", "other"] (spM tb K 3 (mFun 3 (B_Bundle_knowing T.a_Bundle cl))) :=
  have nd := sc_Bundle_knowing.nd
  m_fn T.F_Bundle_knowing sc_Bundle_knowing fun cdv A outer s H E hr => (mss_one (ms_ret (me_ix (ix_X (hu_of hr)) s_ixX (me_fld T.cl_Bundle T.na_ties (me_var (i := 0))) (me_call C.p_pair_of hr (by rfl) T.g_p_pair_of T.F_p_pair_of.kp T.b_p_pair_of pass0 (ma_cons (me_var (i := 1)) (ma_cons (me_var (i := 2)) ma_nil)) (ll_cons (ll_cons ll_nil))) (fun _ _ => rfl))))
theorem ok_Bundle_with_ties (T : Tx K mg) (G : Gx tb base T) {k : Nat} {cl : Fid → FC} (C : Cl tb P w base T k cl) : FnOk P w K mg base CX0 (k + 1) T.a_Bundle_with_ties T.d_Bundle_with_ties ["self", "told"] (spM tb K 2 (mFun 4 (B_Bundle_with_ties T.a_Bundle cl))) :=
  have nd := sc_Bundle_with_ties.nd
  m_fn T.F_Bundle_with_ties sc_Bundle_with_ties fun cdv A outer s H E hr => (mss_cons (ms_setK (j := 2) (own := [("pair", 3)]) .t rfl (hu_of hr) nd rfl rfl (HX.sw_dict rfl rfl rfl (by decide +kernel)) (blkOk_by (N := n_Bundle_with_ties) (sc := defScope s_Bundle_with_ties) (by decide +kernel)) T.cl_Bundle T.na_ties (pe_var (i := 0) rfl (by first | exact Or.inl rfl | exact Or.inr (Or.inl rfl) | exact Or.inr (Or.inr rfl))) ⟨fun _ _ _ _ _ => mw_name (i := 3) (by decide) nd rfl (Or.inl rfl), fun _ _ _ _ _ => mts_nil, fun _ _ _ _ _ => (me_var (i := 3)), fun _ _ _ _ _ => (me_get (hu_of hr) (me_var (i := 1)) (me_var (i := 3)) (me_ix (ix_X (hu_of hr)) s_ixX (me_fld T.cl_Bundle T.na_ties (me_var (i := 0))) (me_var (i := 3)) (fun _ _ => rfl)) ⟨rfl, rfl, rfl, rfl⟩)⟩)
    (mss_one (ms_ret (me_mkB T.mk_Bundle (ok_Bundle___init__ T (k := 0)) C.mk_Bundle hr (by rfl) T.m_Bundle T.b_Bundle___init__ pass0 (ma_cons (me_fld T.cl_Bundle T.na_people (me_var (i := 0))) (ma_cons (me_fld T.cl_Bundle T.na_full (me_var (i := 0))) (ma_cons (me_var (i := 2)) ma_nil)))))))
theorem ok_p_bundle_of (T : Tx K mg) (G : Gx tb base T) {k : Nat} {cl : Fid → FC} (C : Cl tb P w base T k cl) : FnOk P w K mg base CX0 (k + 1) T.a_p_bundle_of T.d_p_bundle_of ["companies"] (spM tb K 1 (mFun 7 (B_p_bundle_of cl))) :=
  have nd := sc_p_bundle_of.nd
  m_fn T.F_p_bundle_of sc_p_bundle_of fun cdv A outer s H E hr => (mss_cons (ms_asg (me_ix ix_A s_ix (me_ix ix_A s_ix (me_var (i := 0)) me_int (fun _ _ => rfl)) me_int (fun _ _ => rfl)) (mg_name (i := 1) nd rfl (Or.inl rfl)))
    (mss_newC (j := 2) (HX.ps_setDx (own := [("pair", 6)]) .t rfl (hu_of hr) nd rfl rfl (HX.sw_dict rfl rfl rfl (by decide +kernel)) (pi_list (me_call C.p_pairs_of hr (by rfl) T.g_p_pairs_of T.F_p_pairs_of.kp T.b_p_pairs_of pass0 (ma_cons (me_var (i := 1)) ma_nil) (ll_cons ll_nil))) (blkOk_by (N := n_p_bundle_of) (sc := defScope s_p_bundle_of) (by decide +kernel)) ⟨fun _ _ _ _ _ => mw_name (i := 6) (by decide) nd rfl (Or.inl rfl), fun _ _ _ _ _ => mts_nil, fun _ _ _ _ _ => (me_var (i := 6)), fun _ _ _ _ _ => me_int⟩) (fun _ _ _ h => nt_dcL .t h) (mss_cons (ms_forE PassesOwn.never rfl (by rfl) T.z_enumerate (ma_cons (me_var (i := 0)) ma_nil) (mg_tup rfl (mgs_cons (mg_name (i := 3) nd rfl (Or.inl rfl)) (mgs_cons (mg_name (i := 4) nd rfl (Or.inl rfl)) mgs_nil))) (mss_one (ms_forT PassesOwn.never rfl (me_ix ix_A s_ix (me_var (i := 4)) me_int (fun _ _ => rfl)) (mg_name (i := 5) nd rfl (Or.inl rfl)) (mss_one ((ps_asg (me_op op_or s_bor (me_ix (ix_X (hu_of hr)) s_ixX (me_var (i := 2)) (me_var (i := 5)) (fun _ _ => rfl)) (me_op op_shl s_shl me_int (me_var (i := 3)))) (pg_sub (me_var (i := 2)) (me_var (i := 5)) (set_dict (hu_of hr)))).weak fun _ _ _ => mt_put)))))
    (mss_one (ms_ret (me_mkB T.mk_Bundle (ok_Bundle___init__ T (k := 0)) C.mk_Bundle hr (by rfl) T.m_Bundle T.b_Bundle___init__ pass0 (ma_cons (me_var (i := 1)) (ma_cons (me_op op_sub s_sub (me_op op_shl s_shl me_int (me_fn call_len_seq s_len (by rfl) T.z_len (by decide +kernel) (ma_cons (me_var (i := 0)) ma_nil))) me_int) (ma_cons (me_var (i := 2)) ma_nil)))))))))
theorem ok_p_company_in (T : Tx K mg) (G : Gx tb base T) {k : Nat} {cl : Fid → FC} (C : Cl tb P w base T k cl) : FnOk P w K mg base CX0 (k + 1) T.a_p_company_in T.d_p_company_in ["bundle", "index"] (spM tb K 2 (mFun 2 (B_p_company_in T.a_Bundle cl))) :=
  have nd := sc_p_company_in.nd
  m_fnC T.h_p_company_in sc_p_company_in fun A outer s H E hr => (mss_one (ms_ret (me_tup (ma_cons (me_fld T.cl_Bundle T.na_people (me_var (i := 0))) (ma_cons (me_held (i := 0) (j := 1) hr (by rfl) T.z_tuple G.tb_p_company_in G.in_p_company_in rfl (genS_mk rfl rfl (by decide +kernel) rfl rfl (by decide +kernel)) T.cl_Bundle T.na_ties rfl rfl rfl rfl rfl rfl (by decide) (by decide) (by decide) (by decide) (by decide) (fun _ _ => rfl) rfl (by intro _; rfl)) ma_nil)) (fun r M ds M' h => Nat.le_trans ((ln_cons (ln_cons ln_nil)) r M ds M' h) (by decide)))))
theorem ok_p_answered (T : Tx K mg) (G : Gx tb base T) {k : Nat} {cl : Fid → FC} (C : Cl tb P w base T k cl) : FnOk P w K mg base CX0 (k + 1) T.a_p_answered T.d_p_answered ["answers", "asked", "also"] (spM tb K 3 (mFun 9 (B_p_answered cl))) :=
  have nd := sc_p_answered.nd
  m_fn T.F_p_answered sc_p_answered fun cdv A outer s H E hr => (mss_cons (ms_setC (j := 3) (ps_setLc2 (own := [("first", 7), ("second", 8)]) (vs1 := [8]) rfl nd rfl rfl (sw_true rfl rfl rfl (by decide +kernel)) (pi_tup (me_var (i := 1))) (blkOk_by (N := n_p_answered) (sc := defScope s_p_answered) (by decide +kernel)) (by decide) (fun _ _ _ _ _ => mw_name (i := 7) (by decide) nd rfl (Or.inl rfl)) (fun _ _ _ _ _ => mts_nil) (fun _ _ _ _ _ => (pi_tup (me_var (i := 2)))) (fun _ _ _ _ _ => mw_name (i := 8) (by decide) nd rfl (Or.inl rfl)) (fun _ _ _ _ _ => mts_nil) (fun _ _ _ _ _ => (me_op op_and s_band (me_var (i := 7)) (me_var (i := 8))))) (fun _ _ _ h => mt_lc2 it_T it_T h))
    (mss_cons (ms_asg me_int (mg_name (i := 4) nd rfl (Or.inl rfl)))
    (mss_cons (ms_forZ PassesOwn.never rfl (by rfl) T.z_zip (ma_cons (me_var (i := 3)) (ma_cons (me_var (i := 0)) ma_nil)) (mg_tup rfl (mgs_cons (mg_name (i := 5) nd rfl (Or.inl rfl)) (mgs_cons (mg_name (i := 6) nd rfl (Or.inl rfl)) mgs_nil))) (mss_one (ms_if (mp_cmp (op_eqA hr.units) s_eq (me_var (i := 6)) me_int (nomark _)) (mss_one (ms_asg (me_op op_or s_bor (me_var (i := 4)) (me_var (i := 5))) (mg_name (i := 4) nd rfl (Or.inl rfl)))) mss_nil)))
    (mss_one (ms_ret (me_var (i := 4)))))))
theorem ok_p_pairs_done (T : Tx K mg) (G : Gx tb base T) {k : Nat} {cl : Fid → FC} (C : Cl tb P w base T k cl) : FnOk P w K mg base CX0 (k + 1) T.a_p_pairs_done T.d_p_pairs_done ["bundle", "doer", "answers"] (spM tb K 3 (mFun 10 (B_p_pairs_done T.a_Bundle cl))) :=
  have nd := sc_p_pairs_done.nd
  m_fn T.F_p_pairs_done sc_p_pairs_done fun cdv A outer s H E hr => (mss_new (i := 3) nd rfl (Or.inl rfl) nm_dic (mss_cons (ms_forK T.cl_Bundle T.na_ties PassesOwn.never rfl (pe_var (i := 0) rfl (by first | exact Or.inl rfl | exact Or.inr (Or.inl rfl) | exact Or.inr (Or.inr rfl))) (mg_tup rfl (mgs_cons (mg_name (i := 4) nd rfl (Or.inl rfl)) (mgs_cons (mg_name (i := 5) nd rfl (Or.inl rfl)) mgs_nil))) (mss_one (ms_if (mw_and (mp_cmp (op_neA hr.units) s_ne (me_var (i := 1)) (me_var (i := 4)) (nomark _)) (mw_and1 (mp_cmp (op_neA hr.units) s_ne (me_var (i := 1)) (me_var (i := 5)) (nomark _)))).pt (mss_cons (ms_asg ((pe_meth (me_var (i := 0)) T.cl_Bundle T.me_knowing C.Bundle_knowing hr T.b_Bundle_knowing .nil pass0 (ma_cons (me_var (i := 4)) (ma_cons (me_var (i := 5)) ma_nil))).weak fun _ _ _ h => mt_meth (ll_cons (ll_cons ll_nil)) h) (mg_name (i := 6) nd rfl (Or.inl rfl)))
    (mss_cons (ms_asg ((pe_meth (me_var (i := 0)) T.cl_Bundle T.me_knowing C.Bundle_knowing hr T.b_Bundle_knowing .nil pass0 (ma_cons (me_var (i := 1)) (ma_cons (me_var (i := 4)) ma_nil))).weak fun _ _ _ h => mt_meth (ll_cons (ll_cons ll_nil)) h) (mg_name (i := 7) nd rfl (Or.inl rfl)))
    (mss_cons (ms_asg ((pe_meth (me_var (i := 0)) T.cl_Bundle T.me_knowing C.Bundle_knowing hr T.b_Bundle_knowing .nil pass0 (ma_cons (me_var (i := 1)) (ma_cons (me_var (i := 5)) ma_nil))).weak fun _ _ _ h => mt_meth (ll_cons (ll_cons ll_nil)) h) (mg_name (i := 8) nd rfl (Or.inl rfl)))
    (mss_cons (ms_asg (me_tup (ma_cons (me_op op_xor s_bxor (me_fld T.cl_Bundle T.na_full (me_var (i := 0))) (me_op op_or s_bor (me_var (i := 7)) (me_var (i := 8)))) (ma_cons (me_op op_xor s_bxor (me_var (i := 7)) (me_var (i := 8))) (ma_cons (me_op op_and s_band (me_var (i := 7)) (me_var (i := 8))) ma_nil))) (fun r M ds M' h => Nat.le_trans ((ln_cons (ln_cons (ln_cons ln_nil))) r M ds M' h) (by decide))) (mg_name (i := 9) nd rfl (Or.inl rfl)))
    (mss_one ((ps_asg (me_call C.p_answered hr (by rfl) T.g_p_answered T.F_p_answered.kp T.b_p_answered pass0 (ma_cons (me_var (i := 2)) (ma_cons (me_tup (ma_cons (me_op op_xor s_bxor (me_fld T.cl_Bundle T.na_full (me_var (i := 0))) (me_var (i := 6))) (ma_cons (me_var (i := 6)) ma_nil)) (fun r M ds M' h => Nat.le_trans ((ln_cons (ln_cons ln_nil)) r M ds M' h) (by decide))) (ma_cons (me_var (i := 9)) ma_nil))) (ll_cons (ll_cons (ll_cons ll_nil)))) (pg_sub (me_var (i := 3)) (me_tup (ma_cons (me_var (i := 4)) (ma_cons (me_var (i := 5)) ma_nil)) (fun r M ds M' h => Nat.le_trans ((ln_cons (ln_cons ln_nil)) r M ds M' h) (by decide))) (set_dict (hu_of hr)))).weak fun _ _ _ => mt_put)))))) mss_nil)))
    (mss_one (ms_ret ((pe_meth (me_var (i := 0)) T.cl_Bundle T.me_with_ties C.Bundle_with_ties hr T.b_Bundle_with_ties .nil pass0 (ma_cons (me_var (i := 3)) ma_nil)).weak fun _ _ _ h => mt_meth (ll_cons ll_nil) h)))))
theorem ok_p_takes_done (T : Tx K mg) (G : Gx tb base T) {k : Nat} {cl : Fid → FC} (C : Cl tb P w base T k cl) : FnOk P w K mg base CX0 (k + 1) T.a_p_takes_done T.d_p_takes_done ["bundle", "one", "other", "answers"] (spM tb K 4 (mFun 9 (B_p_takes_done T.a_Bundle cl))) :=
  have nd := sc_p_takes_done.nd
  m_fn T.F_p_takes_done sc_p_takes_done fun cdv A outer s H E hr => (mss_new (i := 4) nd rfl (Or.inl rfl) nm_dic (mss_cons (ms_forR1 PassesOwn.never rfl (by rfl) T.z_range (ma_cons (me_fld T.cl_Bundle T.na_people (me_var (i := 0))) ma_nil) (mg_name (i := 5) nd rfl (Or.inl rfl)) (mss_one (ms_if (mw_and (mp_cmp (op_neA hr.units) s_ne (me_var (i := 5)) (me_var (i := 1)) (nomark _)) (mw_and1 (mp_cmp (op_neA hr.units) s_ne (me_var (i := 5)) (me_var (i := 2)) (nomark _)))).pt (mss_cons (ms_asg ((pe_meth (me_var (i := 0)) T.cl_Bundle T.me_knowing C.Bundle_knowing hr T.b_Bundle_knowing .nil pass0 (ma_cons (me_var (i := 1)) (ma_cons (me_var (i := 5)) ma_nil))).weak fun _ _ _ h => mt_meth (ll_cons (ll_cons ll_nil)) h) (mg_name (i := 6) nd rfl (Or.inl rfl)))
    (mss_cons (ms_asg ((pe_meth (me_var (i := 0)) T.cl_Bundle T.me_knowing C.Bundle_knowing hr T.b_Bundle_knowing .nil pass0 (ma_cons (me_var (i := 2)) (ma_cons (me_var (i := 5)) ma_nil))).weak fun _ _ _ h => mt_meth (ll_cons (ll_cons ll_nil)) h) (mg_name (i := 7) nd rfl (Or.inl rfl)))
    (mss_cons (ms_asg (me_tup (ma_cons (me_op op_xor s_bxor (me_fld T.cl_Bundle T.na_full (me_var (i := 0))) (me_var (i := 6))) (ma_cons (me_var (i := 6)) ma_nil)) (fun r M ds M' h => Nat.le_trans ((ln_cons (ln_cons ln_nil)) r M ds M' h) (by decide))) (mg_name (i := 8) nd rfl (Or.inl rfl)))
    (mss_one ((ps_asg (me_call C.p_answered hr (by rfl) T.g_p_answered T.F_p_answered.kp T.b_p_answered pass0 (ma_cons (me_var (i := 3)) (ma_cons (me_var (i := 8)) (ma_cons (me_tup (ma_cons (me_op op_xor s_bxor (me_fld T.cl_Bundle T.na_full (me_var (i := 0))) (me_var (i := 7))) (ma_cons (me_var (i := 7)) ma_nil)) (fun r M ds M' h => Nat.le_trans ((ln_cons (ln_cons ln_nil)) r M ds M' h) (by decide))) ma_nil))) (ll_cons (ll_cons (ll_cons ll_nil)))) (pg_sub (me_var (i := 4)) (me_call C.p_pair_of hr (by rfl) T.g_p_pair_of T.F_p_pair_of.kp T.b_p_pair_of pass0 (ma_cons (me_var (i := 1)) (ma_cons (me_var (i := 5)) ma_nil)) (ll_cons (ll_cons ll_nil))) (set_dict (hu_of hr)))).weak fun _ _ _ => mt_put))))) mss_nil)))
    (mss_one (ms_ret ((pe_meth (me_var (i := 0)) T.cl_Bundle T.me_with_ties C.Bundle_with_ties hr T.b_Bundle_with_ties .nil pass0 (ma_cons (me_var (i := 4)) ma_nil)).weak fun _ _ _ h => mt_meth (ll_cons ll_nil) h)))))
theorem ok_p_tie_done (T : Tx K mg) (G : Gx tb base T) {k : Nat} {cl : Fid → FC} (C : Cl tb P w base T k cl) : FnOk P w K mg base CX0 (k + 1) T.a_p_tie_done T.d_p_tie_done ["bundle", "one", "other", "word"] (spM tb K 4 (mFun 5 (B_p_tie_done T.a_Bundle cl))) :=
  have nd := sc_p_tie_done.nd
  m_fn T.F_p_tie_done sc_p_tie_done fun cdv A outer s H E hr => (mss_cons (ms_asg (me_fld T.cl_Bundle T.na_full (me_var (i := 0))) (mg_name (i := 4) nd rfl (Or.inl rfl)))
    (mss_cons (ms_if (mp_cmp (op_eqA hr.units) s_eq (me_var (i := 3)) me_str (nomark _)) (mss_one (ms_asg me_int (mg_name (i := 4) nd rfl (Or.inl rfl)))) mss_nil)
    (mss_cons (ms_if (mp_cmp (op_eqA hr.units) s_eq (me_var (i := 3)) me_str (nomark _)) (mss_one (ms_asg (me_op op_xor s_bxor (me_fld T.cl_Bundle T.na_full (me_var (i := 0))) ((pe_meth (me_var (i := 0)) T.cl_Bundle T.me_knowing C.Bundle_knowing hr T.b_Bundle_knowing .nil pass0 (ma_cons (me_var (i := 1)) (ma_cons (me_var (i := 2)) ma_nil))).weak fun _ _ _ h => mt_meth (ll_cons (ll_cons ll_nil)) h)) (mg_name (i := 4) nd rfl (Or.inl rfl)))) mss_nil)
    (mss_one (ms_ret ((pe_meth (me_var (i := 0)) T.cl_Bundle T.me_with_ties C.Bundle_with_ties hr T.b_Bundle_with_ties .nil pass0 (ma_cons (me_disp .t (hu_of hr) (pps_m (me_call C.p_pair_of hr (by rfl) T.g_p_pair_of T.F_p_pair_of.kp T.b_p_pair_of pass0 (ma_cons (me_var (i := 1)) (ma_cons (me_var (i := 2)) ma_nil)) (ll_cons (ll_cons ll_nil))) (me_var (i := 4)) pps_nil)) ma_nil)).weak fun _ _ _ h => mt_meth (ll_cons ll_nil) h))))))
theorem ok_p_deed_done (T : Tx K mg) (G : Gx tb base T) {k : Nat} {cl : Fid → FC} (C : Cl tb P w base T k cl) : FnOk P w K mg base CX0 (k + 1) T.a_p_deed_done T.d_p_deed_done ["bundle", "deed"] (spM tb K 2 (mFun 2 (B_p_deed_done cl))) :=
  have nd := sc_p_deed_done.nd
  m_fn T.F_p_deed_done sc_p_deed_done fun cdv A outer s H E hr => (mss_cons (ms_if (mp_cmp (op_eqA hr.units) s_eq (me_ix ix_A s_ix (me_var (i := 1)) me_int (fun _ _ => rfl)) me_str (nomark _)) (mss_one (ms_ret (me_call C.p_pairs_done hr (by rfl) T.g_p_pairs_done T.F_p_pairs_done.kp T.b_p_pairs_done pass0 (ma_cons (me_var (i := 0)) (ma_cons (me_ix ix_A s_ix (me_var (i := 1)) me_int (fun _ _ => rfl)) (ma_cons (me_ix ix_A s_ix (me_var (i := 1)) me_int (fun _ _ => rfl)) ma_nil))) (ll_cons (ll_cons (ll_cons ll_nil)))))) mss_nil)
    (mss_cons (ms_if (mp_cmp (op_eqA hr.units) s_eq (me_ix ix_A s_ix (me_var (i := 1)) me_int (fun _ _ => rfl)) me_str (nomark _)) (mss_one (ms_ret (me_call C.p_takes_done hr (by rfl) T.g_p_takes_done T.F_p_takes_done.kp T.b_p_takes_done pass0 (ma_cons (me_var (i := 0)) (ma_cons (me_ix ix_A s_ix (me_var (i := 1)) me_int (fun _ _ => rfl)) (ma_cons (me_ix ix_A s_ix (me_var (i := 1)) me_int (fun _ _ => rfl)) (ma_cons (me_ix ix_A s_ix (me_var (i := 1)) me_int (fun _ _ => rfl)) ma_nil)))) (ll_cons (ll_cons (ll_cons (ll_cons ll_nil))))))) mss_nil)
    (mss_one (ms_ret (me_call C.p_tie_done hr (by rfl) T.g_p_tie_done T.F_p_tie_done.kp T.b_p_tie_done pass0 (ma_cons (me_var (i := 0)) (ma_cons (me_ix ix_A s_ix (me_var (i := 1)) me_int (fun _ _ => rfl)) (ma_cons (me_ix ix_A s_ix (me_var (i := 1)) me_int (fun _ _ => rfl)) (ma_cons (me_ix ix_A s_ix (me_var (i := 1)) me_int (fun _ _ => rfl)) ma_nil)))) (ll_cons (ll_cons (ll_cons (ll_cons ll_nil)))))))))
theorem ok_p_choice_done (T : Tx K mg) (G : Gx tb base T) {k : Nat} {cl : Fid → FC} (C : Cl tb P w base T k cl) : FnOk P w K mg base CX0 (k + 1) T.a_p_choice_done T.d_p_choice_done ["bundle", "choice"] (spM tb K 2 (mFun 7 (B_p_choice_done T.a_Bundle cl))) :=
  have nd := sc_p_choice_done.nd
  m_fn T.F_p_choice_done sc_p_choice_done fun cdv A outer s H E hr => (mss_cons (ms_asg ((pe_meth (me_var (i := 0)) T.cl_Bundle T.me_knowing C.Bundle_knowing hr T.b_Bundle_knowing .nil pass0 (ma_cons (me_ix ix_A s_ix (me_var (i := 1)) me_int (fun _ _ => rfl)) (ma_cons (me_ix ix_A s_ix (me_var (i := 1)) me_int (fun _ _ => rfl)) ma_nil))).weak fun _ _ _ h => mt_meth (ll_cons (ll_cons ll_nil)) h) (mg_name (i := 2) nd rfl (Or.inr rfl)))
    (mss_cons (ms_asg (me_call C.p_items_done hr (by rfl) T.g_p_items_done T.F_p_items_done.kp T.b_p_items_done pass0 (ma_cons (me_var (i := 0)) (ma_cons (me_ix ix_A s_ix (me_var (i := 1)) me_int (fun _ _ => rfl)) ma_nil)) (ll_cons (ll_cons ll_nil))) (mg_name (i := 3) nd rfl (Or.inr rfl)))
    (mss_cons (ms_asg (me_call C.p_items_done hr (by rfl) T.g_p_items_done T.F_p_items_done.kp T.b_p_items_done pass0 (ma_cons (me_var (i := 0)) (ma_cons (me_ix ix_A s_ix (me_var (i := 1)) me_int (fun _ _ => rfl)) ma_nil)) (ll_cons (ll_cons ll_nil))) (mg_name (i := 4) nd rfl (Or.inr rfl)))
    (mss_cons (ms_setK (j := 5) (own := [("pair", 6)]) .t rfl (hu_of hr) nd rfl rfl (HX.sw_dict rfl rfl rfl (by decide +kernel)) (blkOk_by (N := n_p_choice_done) (sc := defScope s_p_choice_done) (by decide +kernel)) T.cl_Bundle T.na_ties (pe_var (i := 0) rfl (by first | exact Or.inl rfl | exact Or.inr (Or.inl rfl) | exact Or.inr (Or.inr rfl))) ⟨fun _ _ _ _ _ => mw_name (i := 6) (by decide) nd rfl (Or.inl rfl), fun _ _ _ _ _ => mts_nil, fun _ _ _ _ _ => (me_var (i := 6)), fun _ _ _ _ _ => (me_op op_or s_bor (me_op op_and s_band (me_ix (ix_X (hu_of hr)) s_ixX (me_fld T.cl_Bundle T.na_ties (me_var (i := 3))) (me_var (i := 6)) (fun _ _ => rfl)) (me_var (i := 2))) (me_op op_and s_band (me_ix (ix_X (hu_of hr)) s_ixX (me_fld T.cl_Bundle T.na_ties (me_var (i := 4))) (me_var (i := 6)) (fun _ _ => rfl)) (me_op op_xor s_bxor (me_fld T.cl_Bundle T.na_full (me_var (i := 0))) (me_var (i := 2)))))⟩)
    (mss_one (ms_ret ((pe_meth (me_var (i := 0)) T.cl_Bundle T.me_with_ties C.Bundle_with_ties hr T.b_Bundle_with_ties .nil pass0 (ma_cons (me_var (i := 5)) ma_nil)).weak fun _ _ _ h => mt_meth (ll_cons ll_nil) h)))))))
theorem ok_p_items_done (T : Tx K mg) (G : Gx tb base T) {k : Nat} {cl : Fid → FC} (C : Cl tb P w base T k cl) : FnOk P w K mg base CX0 (k + 1) T.a_p_items_done T.d_p_items_done ["bundle", "items"] (spM tb K 2 (mFun 3 (B_p_items_done cl))) :=
  have nd := sc_p_items_done.nd
  m_fn T.F_p_items_done sc_p_items_done fun cdv A outer s H E hr => (mss_cons (ms_forT PassesOwn.never rfl (me_var (i := 1)) (mg_name (i := 2) nd rfl (Or.inl rfl)) (mss_one (ms_if (mp_cmp (op_eqA hr.units) s_eq (me_ix ix_A s_ix (me_var (i := 2)) me_int (fun _ _ => rfl)) me_str (nomark _)) (mss_one (ms_asg (me_call C.p_choice_done hr (by rfl) T.g_p_choice_done T.F_p_choice_done.kp T.b_p_choice_done pass0 (ma_cons (me_var (i := 0)) (ma_cons (me_var (i := 2)) ma_nil)) (ll_cons (ll_cons ll_nil))) (mg_name (i := 0) nd rfl (Or.inl rfl)))) (mss_one (ms_asg (me_call C.p_deed_done hr (by rfl) T.g_p_deed_done T.F_p_deed_done.kp T.b_p_deed_done pass0 (ma_cons (me_var (i := 0)) (ma_cons (me_var (i := 2)) ma_nil)) (ll_cons (ll_cons ll_nil))) (mg_name (i := 0) nd rfl (Or.inl rfl)))))))
    (mss_one (ms_ret (me_var (i := 0)))))
theorem ok_p_company_done (T : Tx K mg) (G : Gx tb base T) {k : Nat} {cl : Fid → FC} (C : Cl tb P w base T k cl) : FnOk P w K mg base CX0 (k + 1) T.a_p_company_done T.d_p_company_done ["company", "items"] (spM tb K 2 (mFun 2 (B_p_company_done cl))) :=
  have nd := sc_p_company_done.nd
  m_fn T.F_p_company_done sc_p_company_done fun cdv A outer s H E hr => (mss_one (ms_ret (me_call C.p_company_in hr (by rfl) T.g_p_company_in T.F_p_company_in.kp T.b_p_company_in pass0 (ma_cons (me_call C.p_items_done hr (by rfl) T.g_p_items_done T.F_p_items_done.kp T.b_p_items_done pass0 (ma_cons (me_call C.p_bundle_of hr (by rfl) T.g_p_bundle_of T.F_p_bundle_of.kp T.b_p_bundle_of pass0 (ma_cons (me_lst (ma_cons (me_var (i := 0)) ma_nil) (fun r M ds M' h => Nat.le_trans ((ln_cons ln_nil) r M ds M' h) (by decide))) ma_nil) (ll_cons ll_nil)) (ma_cons (me_var (i := 1)) ma_nil)) (ll_cons (ll_cons ll_nil))) (ma_cons me_int ma_nil)) (ll_cons (ll_cons ll_nil)))))
theorem ok_p_is_integer (T : Tx K mg) (G : Gx tb base T) {k : Nat} {cl : Fid → FC} (C : Cl tb P w base T k cl) : FnOk P w K mg base CX0 (k + 1) T.a_p_is_integer T.d_p_is_integer ["value"] (spM tb K 1 (mFun 1 (B_p_is_integer cl))) :=
  have nd := sc_p_is_integer.nd
  m_fn T.F_p_is_integer sc_p_is_integer fun cdv A outer s H E hr => (mss_one (ms_ret (me_and (me_isi ty_int (by rfl) T.z_isinstance (by decide +kernel) (by rfl) T.z_int (by decide +kernel) (me_var (i := 0))) (me_one (me_not (me_isi ty_bool (by rfl) T.z_isinstance (by decide +kernel) (by rfl) T.z_bool (by decide +kernel) (me_var (i := 0))))))))
theorem ok_p_is_between (T : Tx K mg) (G : Gx tb base T) {k : Nat} {cl : Fid → FC} (C : Cl tb P w base T k cl) : FnOk P w K mg base CX0 (k + 1) T.a_p_is_between T.d_p_is_between ["value", "least", "most"] (spM tb K 3 (mFun 3 (B_p_is_between cl))) :=
  have nd := sc_p_is_between.nd
  m_fn T.F_p_is_between sc_p_is_between fun cdv A outer s H E hr => (mss_one (ms_ret (me_and (me_call C.p_is_integer hr (by rfl) T.g_p_is_integer T.F_p_is_integer.kp T.b_p_is_integer pass0 (ma_cons (me_var (i := 0)) ma_nil) (ll_cons ll_nil)) (me_one (me_chain op_le op_le s_le s_le (me_var (i := 1)) (me_var (i := 0)) (me_var (i := 2)) (by with_unfolding_all rfl))))))
theorem ok_p_is_tuple_of (T : Tx K mg) (G : Gx tb base T) {k : Nat} {cl : Fid → FC} (C : Cl tb P w base T k cl) : FnOk P w K mg base CX0 (k + 1) T.a_p_is_tuple_of T.d_p_is_tuple_of ["value", "many"] (spM tb K 2 (mFun 2 (B_p_is_tuple_of cl))) :=
  have nd := sc_p_is_tuple_of.nd
  m_fn T.F_p_is_tuple_of sc_p_is_tuple_of fun cdv A outer s H E hr => (mss_one (ms_ret (me_and (me_isi ty_tuple (by rfl) T.z_isinstance (by decide +kernel) (by rfl) T.z_tuple (by decide +kernel) (me_var (i := 0))) (me_one (me_cmp (op_eqA hr.units) s_eq (me_fn call_len_seq s_len (by rfl) T.z_len (by decide +kernel) (ma_cons (me_var (i := 0)) ma_nil)) (me_var (i := 1)) (nomark _))))))
theorem ok_p_is_ascending (T : Tx K mg) (G : Gx tb base T) {k : Nat} {cl : Fid → FC} (C : Cl tb P w base T k cl) : FnOk P w K mg base CX0 (k + 1) T.a_p_is_ascending T.d_p_is_ascending ["values"] (spM tb K 1 (mFun 2 (B_p_is_ascending cl))) :=
  have nd := sc_p_is_ascending.nd
  m_fn T.F_p_is_ascending sc_p_is_ascending fun cdv A outer s H E hr => (mss_one (ms_ret (me_fn (cr_all rfl) s_all (by rfl) T.z_all (by decide +kernel) (ma_cons (me_lc (own := [("index", 1)]) (fun _ _ _ h => mt_lcR1 h) rfl nd (pi_range1 (by rfl) T.z_range (ma_cons (me_op op_sub s_sub (me_fn call_len_seq s_len (by rfl) T.z_len (by decide +kernel) (ma_cons (me_var (i := 0)) ma_nil)) me_int) ma_nil)) (blkOk_by (N := n_p_is_ascending) (sc := defScope s_p_is_ascending) (by decide +kernel)) (fun _ _ _ _ _ => mw_name (i := 1) (by decide) nd rfl (Or.inl rfl)) (fun _ _ _ _ _ => mts_nil) (fun _ _ _ _ _ => (me_cmp (op_ltX (units0 hr)) s_ltX (me_ix ix_A s_ix (me_var (i := 0)) (me_var (i := 1)) (fun _ _ => rfl)) (me_ix ix_A s_ix (me_var (i := 0)) (me_op op_addA s_add (me_var (i := 1)) me_int) (fun _ _ => rfl)) (nomark _)))) ma_nil))))
theorem ok_p_is_pair_of (T : Tx K mg) (G : Gx tb base T) {k : Nat} {cl : Fid → FC} (C : Cl tb P w base T k cl) : FnOk P w K mg base CX0 (k + 1) T.a_p_is_pair_of T.d_p_is_pair_of ["people", "value"] (spM tb K 2 (mFun 4 (B_p_is_pair_of cl))) :=
  have nd := sc_p_is_pair_of.nd
  m_fn T.F_p_is_pair_of sc_p_is_pair_of fun cdv A outer s H E hr => (mss_cons (ms_if (mp_not (mp_val (me_call C.p_is_tuple_of hr (by rfl) T.g_p_is_tuple_of T.F_p_is_tuple_of.kp T.b_p_is_tuple_of pass0 (ma_cons (me_var (i := 1)) (ma_cons me_int ma_nil)) (ll_cons (ll_cons ll_nil))))) (mss_one (ms_ret me_bl)) mss_nil)
    (mss_cons (ms_asg (me_var (i := 1)) (mg_tup rfl (mgs_cons (mg_name (i := 2) nd rfl (Or.inl rfl)) (mgs_cons (mg_name (i := 3) nd rfl (Or.inl rfl)) mgs_nil))))
    (mss_one (ms_ret (me_and (me_call C.p_is_between hr (by rfl) T.g_p_is_between T.F_p_is_between.kp T.b_p_is_between pass0 (ma_cons (me_var (i := 2)) (ma_cons me_int (ma_cons (me_op op_sub s_sub (me_var (i := 0)) me_int) ma_nil))) (ll_cons (ll_cons (ll_cons ll_nil)))) (me_one (me_call C.p_is_between hr (by rfl) T.g_p_is_between T.F_p_is_between.kp T.b_p_is_between pass0 (ma_cons (me_var (i := 3)) (ma_cons (me_op op_addA s_add (me_var (i := 2)) me_int) (ma_cons (me_op op_sub s_sub (me_var (i := 0)) me_int) ma_nil))) (ll_cons (ll_cons (ll_cons ll_nil))))))))))
theorem ok_p_are_ties_of (T : Tx K mg) (G : Gx tb base T) {k : Nat} {cl : Fid → FC} (C : Cl tb P w base T k cl) : FnOk P w K mg base CX0 (k + 1) T.a_p_are_ties_of T.d_p_are_ties_of ["people", "value"] (spM tb K 2 (mFun 3 (B_p_are_ties_of cl))) :=
  have nd := sc_p_are_ties_of.nd
  m_fn T.F_p_are_ties_of sc_p_are_ties_of fun cdv A outer s H E hr => (mss_cons (ms_if (mp_not (mp_val (me_isi ty_tuple (by rfl) T.z_isinstance (by decide +kernel) (by rfl) T.z_tuple (by decide +kernel) (me_var (i := 1))))) (mss_one (ms_ret me_bl)) mss_nil)
    (mss_one (ms_ret (me_and (me_fn (cr_all rfl) s_all (by rfl) T.z_all (by decide +kernel) (ma_cons (me_lc (own := [("tie", 2)]) (fun _ _ _ h => mt_lcT h) rfl nd (pi_tup (me_var (i := 1))) (blkOk_by (N := n_p_are_ties_of) (sc := defScope s_p_are_ties_of) (by decide +kernel)) (fun _ _ _ _ _ => mw_name (i := 2) (by decide) nd rfl (Or.inl rfl)) (fun _ _ _ _ _ => mts_nil) (fun _ _ _ _ _ => (me_call C.p_is_pair_of hr (by rfl) T.g_p_is_pair_of T.F_p_is_pair_of.kp T.b_p_is_pair_of pass0 (ma_cons (me_var (i := 0)) (ma_cons (me_var (i := 2)) ma_nil)) (ll_cons (ll_cons ll_nil))))) ma_nil)) (me_one (me_call C.p_is_ascending hr (by rfl) T.g_p_is_ascending T.F_p_is_ascending.kp T.b_p_is_ascending pass0 (ma_cons (me_var (i := 1)) ma_nil) (ll_cons ll_nil)))))))
theorem ok_p_is_company_of (T : Tx K mg) (G : Gx tb base T) {k : Nat} {cl : Fid → FC} (C : Cl tb P w base T k cl) : FnOk P w K mg base CX0 (k + 1) T.a_p_is_company_of T.d_p_is_company_of ["named", "value"] (spM tb K 2 (mFun 4 (B_p_is_company_of cl))) :=
  have nd := sc_p_is_company_of.nd
  m_fn T.F_p_is_company_of sc_p_is_company_of fun cdv A outer s H E hr => (mss_cons (ms_if (mp_not (mp_val (me_call C.p_is_tuple_of hr (by rfl) T.g_p_is_tuple_of T.F_p_is_tuple_of.kp T.b_p_is_tuple_of pass0 (ma_cons (me_var (i := 1)) (ma_cons me_int ma_nil)) (ll_cons (ll_cons ll_nil))))) (mss_one (ms_ret me_bl)) mss_nil)
    (mss_cons (ms_asg (me_var (i := 1)) (mg_tup rfl (mgs_cons (mg_name (i := 2) nd rfl (Or.inl rfl)) (mgs_cons (mg_name (i := 3) nd rfl (Or.inl rfl)) mgs_nil))))
    (mss_one (ms_ret (me_and (me_call C.p_is_between hr (by rfl) T.g_p_is_between T.F_p_is_between.kp T.b_p_is_between pass0 (ma_cons (me_var (i := 2)) (ma_cons (me_var (i := 0)) (ma_cons (me_globI (by rfl) T.c_MOST_PEOPLE) ma_nil))) (ll_cons (ll_cons (ll_cons ll_nil)))) (me_one (me_call C.p_are_ties_of hr (by rfl) T.g_p_are_ties_of T.F_p_are_ties_of.kp T.b_p_are_ties_of pass0 (ma_cons (me_var (i := 2)) (ma_cons (me_var (i := 3)) ma_nil)) (ll_cons (ll_cons ll_nil)))))))))
theorem ok_p_are_answers (T : Tx K mg) (G : Gx tb base T) {k : Nat} {cl : Fid → FC} (C : Cl tb P w base T k cl) : FnOk P w K mg base CX0 (k + 1) T.a_p_are_answers T.d_p_are_answers ["value", "many"] (spM tb K 2 (mFun 3 (B_p_are_answers cl))) :=
  have nd := sc_p_are_answers.nd
  m_fn T.F_p_are_answers sc_p_are_answers fun cdv A outer s H E hr => (mss_one (ms_ret (me_and (me_call C.p_is_tuple_of hr (by rfl) T.g_p_is_tuple_of T.F_p_is_tuple_of.kp T.b_p_is_tuple_of pass0 (ma_cons (me_var (i := 0)) (ma_cons (me_var (i := 1)) ma_nil)) (ll_cons (ll_cons ll_nil))) (me_one (me_fn (cr_all rfl) s_all (by rfl) T.z_all (by decide +kernel) (ma_cons (me_lc (own := [("answer", 2)]) (fun _ _ _ h => mt_lcT h) rfl nd (pi_tup (me_var (i := 0))) (blkOk_by (N := n_p_are_answers) (sc := defScope s_p_are_answers) (by decide +kernel)) (fun _ _ _ _ _ => mw_name (i := 2) (by decide) nd rfl (Or.inl rfl)) (fun _ _ _ _ _ => mts_nil) (fun _ _ _ _ _ => (me_call C.p_is_between hr (by rfl) T.g_p_is_between T.F_p_is_between.kp T.b_p_is_between pass0 (ma_cons (me_var (i := 2)) (ma_cons me_int (ma_cons me_int ma_nil))) (ll_cons (ll_cons (ll_cons ll_nil)))))) ma_nil))))))
theorem ok_p_are_two_named (T : Tx K mg) (G : Gx tb base T) {k : Nat} {cl : Fid → FC} (C : Cl tb P w base T k cl) : FnOk P w K mg base CX0 (k + 1) T.a_p_are_two_named T.d_p_are_two_named ["named", "one", "other"] (spM tb K 3 (mFun 3 (B_p_are_two_named cl))) :=
  have nd := sc_p_are_two_named.nd
  m_fn T.F_p_are_two_named sc_p_are_two_named fun cdv A outer s H E hr => (mss_one (ms_ret (me_and (me_call C.p_is_between hr (by rfl) T.g_p_is_between T.F_p_is_between.kp T.b_p_is_between pass0 (ma_cons (me_var (i := 1)) (ma_cons me_int (ma_cons (me_op op_sub s_sub (me_var (i := 0)) me_int) ma_nil))) (ll_cons (ll_cons (ll_cons ll_nil)))) (me_and (me_call C.p_is_between hr (by rfl) T.g_p_is_between T.F_p_is_between.kp T.b_p_is_between pass0 (ma_cons (me_var (i := 2)) (ma_cons me_int (ma_cons (me_op op_sub s_sub (me_var (i := 0)) me_int) ma_nil))) (ll_cons (ll_cons (ll_cons ll_nil)))) (me_one (me_cmp (op_neA hr.units) s_ne (me_var (i := 1)) (me_var (i := 2)) (nomark _)))))))
theorem ok_p_is_deed_of (T : Tx K mg) (G : Gx tb base T) {k : Nat} {cl : Fid → FC} (C : Cl tb P w base T k cl) : FnOk P w K mg base CX0 (k + 1) T.a_p_is_deed_of T.d_p_is_deed_of ["named", "value"] (spM tb K 2 (mFun 2 (B_p_is_deed_of cl))) :=
  have nd := sc_p_is_deed_of.nd
  m_fn T.F_p_is_deed_of sc_p_is_deed_of fun cdv A outer s H E hr => (mss_cons (ms_if (mw_and (mp_val (me_call C.p_is_tuple_of hr (by rfl) T.g_p_is_tuple_of T.F_p_is_tuple_of.kp T.b_p_is_tuple_of pass0 (ma_cons (me_var (i := 1)) (ma_cons me_int ma_nil)) (ll_cons (ll_cons ll_nil)))) (mw_and1 (mp_cmp (op_eqA hr.units) s_eq (me_ix ix_A s_ix (me_var (i := 1)) me_int (fun _ _ => rfl)) me_str (nomark _)))).pt (mss_one (ms_ret (me_and (me_call C.p_is_between hr (by rfl) T.g_p_is_between T.F_p_is_between.kp T.b_p_is_between pass0 (ma_cons (me_ix ix_A s_ix (me_var (i := 1)) me_int (fun _ _ => rfl)) (ma_cons me_int (ma_cons (me_op op_sub s_sub (me_var (i := 0)) me_int) ma_nil))) (ll_cons (ll_cons (ll_cons ll_nil)))) (me_one (me_call C.p_are_answers hr (by rfl) T.g_p_are_answers T.F_p_are_answers.kp T.b_p_are_answers pass0 (ma_cons (me_ix ix_A s_ix (me_var (i := 1)) me_int (fun _ _ => rfl)) (ma_cons me_int ma_nil)) (ll_cons (ll_cons ll_nil))))))) mss_nil)
    (mss_cons (ms_if (mw_or (mp_not (mp_val (me_call C.p_is_tuple_of hr (by rfl) T.g_p_is_tuple_of T.F_p_is_tuple_of.kp T.b_p_is_tuple_of pass0 (ma_cons (me_var (i := 1)) (ma_cons me_int ma_nil)) (ll_cons (ll_cons ll_nil))))) (mw_or1 (mp_not (mp_val (me_call C.p_are_two_named hr (by rfl) T.g_p_are_two_named T.F_p_are_two_named.kp T.b_p_are_two_named pass0 (ma_cons (me_var (i := 0)) (ma_cons (me_ix ix_A s_ix (me_var (i := 1)) me_int (fun _ _ => rfl)) (ma_cons (me_ix ix_A s_ix (me_var (i := 1)) me_int (fun _ _ => rfl)) ma_nil))) (ll_cons (ll_cons (ll_cons ll_nil)))))))).pt (mss_one (ms_ret me_bl)) mss_nil)
    (mss_cons (ms_if (mp_cmp (op_eqA hr.units) s_eq (me_ix ix_A s_ix (me_var (i := 1)) me_int (fun _ _ => rfl)) me_str (nomark _)) (mss_one (ms_ret (me_call C.p_are_answers hr (by rfl) T.g_p_are_answers T.F_p_are_answers.kp T.b_p_are_answers pass0 (ma_cons (me_ix ix_A s_ix (me_var (i := 1)) me_int (fun _ _ => rfl)) (ma_cons me_int ma_nil)) (ll_cons (ll_cons ll_nil))))) mss_nil)
    (mss_one (ms_ret (me_and (me_cmp (op_eqA hr.units) s_eq (me_ix ix_A s_ix (me_var (i := 1)) me_int (fun _ _ => rfl)) me_str (nomark _)) (me_one (me_cmp (op_inX (room65 hr)) s_inX (me_ix ix_A s_ix (me_var (i := 1)) me_int (fun _ _ => rfl)) (me_globR (by rfl) T.c_WORDS T.r_WORDS) (by rfl)))))))))
theorem ok_p_is_asking (T : Tx K mg) (G : Gx tb base T) {k : Nat} {cl : Fid → FC} (C : Cl tb P w base T k cl) : FnOk P w K mg base CX0 (k + 1) T.a_p_is_asking T.d_p_is_asking ["named", "value"] (spM tb K 2 (mFun 2 (B_p_is_asking cl))) :=
  have nd := sc_p_is_asking.nd
  m_fn T.F_p_is_asking sc_p_is_asking fun cdv A outer s H E hr => (mss_cons (ms_if (mw_or (mp_not (mp_val (me_call C.p_is_tuple_of hr (by rfl) T.g_p_is_tuple_of T.F_p_is_tuple_of.kp T.b_p_is_tuple_of pass0 (ma_cons (me_var (i := 1)) (ma_cons me_int ma_nil)) (ll_cons (ll_cons ll_nil))))) (mw_or1 (mp_cmp (op_neA hr.units) s_ne (me_ix ix_A s_ix (me_var (i := 1)) me_int (fun _ _ => rfl)) me_str (nomark _)))).pt (mss_one (ms_ret me_bl)) mss_nil)
    (mss_one (ms_ret (me_call C.p_are_two_named hr (by rfl) T.g_p_are_two_named T.F_p_are_two_named.kp T.b_p_are_two_named pass0 (ma_cons (me_var (i := 0)) (ma_cons (me_ix ix_A s_ix (me_var (i := 1)) me_int (fun _ _ => rfl)) (ma_cons (me_ix ix_A s_ix (me_var (i := 1)) me_int (fun _ _ => rfl)) ma_nil))) (ll_cons (ll_cons (ll_cons ll_nil)))))))
theorem ok_p_left_behind (T : Tx K mg) (G : Gx tb base T) {k : Nat} {cl : Fid → FC} (C : Cl tb P w base T k cl) : FnOk P w K mg base CX0 (k + 1) T.a_p_left_behind T.d_p_left_behind ["named", "value", "depth", "left"] (spM tb K 4 (mFun 5 (B_p_left_behind cl))) :=
  have nd := sc_p_left_behind.nd
  m_fn T.F_p_left_behind sc_p_left_behind fun cdv A outer s H E hr => (mss_cons (ms_if (mw_or (mp_not (mp_val (me_isi ty_tuple (by rfl) T.z_isinstance (by decide +kernel) (by rfl) T.z_tuple (by decide +kernel) (me_var (i := 1))))) (mw_or1 (mp_cmp op_gt s_gt (me_fn call_len_seq s_len (by rfl) T.z_len (by decide +kernel) (ma_cons (me_var (i := 1)) ma_nil)) (me_var (i := 3)) (nomark _)))).pt (mss_one (ms_ret (me_un un_neg s_neg me_int))) mss_nil)
    (mss_cons (ms_asg (me_op op_sub s_sub (me_var (i := 3)) (me_fn call_len_seq s_len (by rfl) T.z_len (by decide +kernel) (ma_cons (me_var (i := 1)) ma_nil))) (mg_name (i := 3) nd rfl (Or.inl rfl)))
    (mss_cons (ms_forT PassesOwn.never rfl (me_var (i := 1)) (mg_name (i := 4) nd rfl (Or.inl rfl)) (mss_one (ms_asg (me_call C.p_left_behind_item hr (by rfl) T.g_p_left_behind_item T.F_p_left_behind_item.kp T.b_p_left_behind_item pass0 (ma_cons (me_var (i := 0)) (ma_cons (me_var (i := 4)) (ma_cons (me_var (i := 2)) (ma_cons (me_var (i := 3)) ma_nil)))) (ll_cons (ll_cons (ll_cons (ll_cons ll_nil))))) (mg_name (i := 3) nd rfl (Or.inl rfl)))))
    (mss_one (ms_ret (me_var (i := 3)))))))
theorem ok_p_left_behind_item (T : Tx K mg) (G : Gx tb base T) {k : Nat} {cl : Fid → FC} (C : Cl tb P w base T k cl) : FnOk P w K mg base CX0 (k + 1) T.a_p_left_behind_item T.d_p_left_behind_item ["named", "item", "depth", "left"] (spM tb K 4 (mFun 4 (B_p_left_behind_item cl))) :=
  have nd := sc_p_left_behind_item.nd
  m_fn T.F_p_left_behind_item sc_p_left_behind_item fun cdv A outer s H E hr => (mss_cons (ms_if (mp_val (me_call C.p_is_deed_of hr (by rfl) T.g_p_is_deed_of T.F_p_is_deed_of.kp T.b_p_is_deed_of pass0 (ma_cons (me_var (i := 0)) (ma_cons (me_var (i := 1)) ma_nil)) (ll_cons (ll_cons ll_nil)))) (mss_one (ms_ret (me_var (i := 3)))) mss_nil)
    (mss_cons (ms_if (mw_or (mp_cmp (op_eqA hr.units) s_eq (me_var (i := 2)) me_int (nomark _)) (mw_or1 (mp_not (mp_val (me_call C.p_is_asking hr (by rfl) T.g_p_is_asking T.F_p_is_asking.kp T.b_p_is_asking pass0 (ma_cons (me_var (i := 0)) (ma_cons (me_var (i := 1)) ma_nil)) (ll_cons (ll_cons ll_nil))))))).pt (mss_one (ms_ret (me_un un_neg s_neg me_int))) mss_nil)
    (mss_cons (ms_asg (me_call C.p_left_behind hr (by rfl) T.g_p_left_behind T.F_p_left_behind.kp T.b_p_left_behind pass0 (ma_cons (me_var (i := 0)) (ma_cons (me_ix ix_A s_ix (me_var (i := 1)) me_int (fun _ _ => rfl)) (ma_cons (me_op op_sub s_sub (me_var (i := 2)) me_int) (ma_cons (me_var (i := 3)) ma_nil)))) (ll_cons (ll_cons (ll_cons (ll_cons ll_nil))))) (mg_name (i := 3) nd rfl (Or.inl rfl)))
    (mss_one (ms_ret (me_call C.p_left_behind hr (by rfl) T.g_p_left_behind T.F_p_left_behind.kp T.b_p_left_behind pass0 (ma_cons (me_var (i := 0)) (ma_cons (me_ix ix_A s_ix (me_var (i := 1)) me_int (fun _ _ => rfl)) (ma_cons (me_op op_sub s_sub (me_var (i := 2)) me_int) (ma_cons (me_var (i := 3)) ma_nil)))) (ll_cons (ll_cons (ll_cons (ll_cons ll_nil))))))))))
theorem ok_p_is_script_of (T : Tx K mg) (G : Gx tb base T) {k : Nat} {cl : Fid → FC} (C : Cl tb P w base T k cl) : FnOk P w K mg base CX0 (k + 1) T.a_p_is_script_of T.d_p_is_script_of ["named", "value"] (spM tb K 2 (mFun 2 (B_p_is_script_of cl))) :=
  have nd := sc_p_is_script_of.nd
  m_fn T.F_p_is_script_of sc_p_is_script_of fun cdv A outer s H E hr => (mss_one (ms_ret (me_cmp op_ge s_ge (me_call C.p_left_behind hr (by rfl) T.g_p_left_behind T.F_p_left_behind.kp T.b_p_left_behind pass0 (ma_cons (me_var (i := 0)) (ma_cons (me_var (i := 1)) (ma_cons (me_globI (by rfl) T.c_MOST_DEPTH) (ma_cons (me_globI (by rfl) T.c_MOST_ITEMS) ma_nil)))) (ll_cons (ll_cons (ll_cons (ll_cons ll_nil))))) me_int (nomark _))))
theorem ok_p_check_named (T : Tx K mg) (G : Gx tb base T) {k : Nat} {cl : Fid → FC} (C : Cl tb P w base T k cl) : FnOk P w K mg base CX0 (k + 1) T.a_p_check_named T.d_p_check_named ["named"] (spM tb K 1 (mFun 1 (B_p_check_named cl))) :=
  have nd := sc_p_check_named.nd
  m_fn T.F_p_check_named sc_p_check_named fun cdv A outer s H E hr => (mss_one (ms_if (mp_not (mp_val (me_call C.p_is_between hr (by rfl) T.g_p_is_between T.F_p_is_between.kp T.b_p_is_between pass0 (ma_cons (me_var (i := 0)) (ma_cons me_int (ma_cons (me_globI (by rfl) T.c_MOST_NAMED) ma_nil))) (ll_cons (ll_cons (ll_cons ll_nil)))))) (mss_one ms_never) mss_nil))
theorem ok_p_check_company (T : Tx K mg) (G : Gx tb base T) {k : Nat} {cl : Fid → FC} (C : Cl tb P w base T k cl) : FnOk P w K mg base CX0 (k + 1) T.a_p_check_company T.d_p_check_company ["named", "company"] (spM tb K 2 (mFun 2 (B_p_check_company cl))) :=
  have nd := sc_p_check_company.nd
  m_fn T.F_p_check_company sc_p_check_company fun cdv A outer s H E hr => (mss_cons (ms_expr (me_call C.p_check_named hr (by rfl) T.g_p_check_named T.F_p_check_named.kp T.b_p_check_named pass0 (ma_cons (me_var (i := 0)) ma_nil) (ll_cons ll_nil)))
    (mss_one (ms_if (mp_not (mp_val (me_call C.p_is_company_of hr (by rfl) T.g_p_is_company_of T.F_p_is_company_of.kp T.b_p_is_company_of pass0 (ma_cons (me_var (i := 0)) (ma_cons (me_var (i := 1)) ma_nil)) (ll_cons (ll_cons ll_nil))))) (mss_one ms_never) mss_nil)))
theorem ok_p_check_script (T : Tx K mg) (G : Gx tb base T) {k : Nat} {cl : Fid → FC} (C : Cl tb P w base T k cl) : FnOk P w K mg base CX0 (k + 1) T.a_p_check_script T.d_p_check_script ["named", "script"] (spM tb K 2 (mFun 2 (B_p_check_script cl))) :=
  have nd := sc_p_check_script.nd
  m_fn T.F_p_check_script sc_p_check_script fun cdv A outer s H E hr => (mss_cons (ms_expr (me_call C.p_check_named hr (by rfl) T.g_p_check_named T.F_p_check_named.kp T.b_p_check_named pass0 (ma_cons (me_var (i := 0)) ma_nil) (ll_cons ll_nil)))
    (mss_one (ms_if (mp_not (mp_val (me_call C.p_is_script_of hr (by rfl) T.g_p_is_script_of T.F_p_is_script_of.kp T.b_p_is_script_of pass0 (ma_cons (me_var (i := 0)) (ma_cons (me_var (i := 1)) ma_nil)) (ll_cons (ll_cons ll_nil))))) (mss_one ms_never) mss_nil)))
theorem ok_p_done (T : Tx K mg) (G : Gx tb base T) {k : Nat} {cl : Fid → FC} (C : Cl tb P w base T k cl) : FnOk P w K mg base CX0 (k + 1) T.a_p_done T.d_p_done ["named", "company", "script"] (spM tb K 3 (mFun 3 (B_p_done cl))) :=
  have nd := sc_p_done.nd
  m_fn T.F_p_done sc_p_done fun cdv A outer s H E hr => (mss_cons (ms_expr (me_call C.p_check_company hr (by rfl) T.g_p_check_company T.F_p_check_company.kp T.b_p_check_company pass0 (ma_cons (me_var (i := 0)) (ma_cons (me_var (i := 1)) ma_nil)) (ll_cons (ll_cons ll_nil))))
    (mss_cons (ms_expr (me_call C.p_check_script hr (by rfl) T.g_p_check_script T.F_p_check_script.kp T.b_p_check_script pass0 (ma_cons (me_var (i := 0)) (ma_cons (me_var (i := 2)) ma_nil)) (ll_cons (ll_cons ll_nil))))
    (mss_one (ms_ret (me_call C.p_company_done hr (by rfl) T.g_p_company_done T.F_p_company_done.kp T.b_p_company_done pass0 (ma_cons (me_var (i := 1)) (ma_cons (me_var (i := 2)) ma_nil)) (ll_cons (ll_cons ll_nil)))))))
theorem ok_Lcup (T : Tx K mg) (G : Gx tb base T) (k : Nat) : FnOk P w K mg base CX0 (k + 1) T.a_Lcup T.d_Lcup ["_law_script"] (spF tb K 1 g_Lcup) :=
  have nd := sc_Lcup.nd
  m_fnF T.F_Lcup sc_Lcup rfl (fun r M ds M' h => Nat.le_trans ((ln_cons (ln_cons ln_nil)) r M ds M' h) (by decide)) fun cdv A outer s H E hr => ⟨(ms_asg (me_fn call_abs s_abs (by rfl) T.z_abs (by decide +kernel) (ma_cons (me_ix ix_A s_ix (me_op op_addA s_add (me_ty call_list_of s_list (by rfl) T.z_list (by decide +kernel) (ma_cons (me_var (i := 0)) ma_nil)) (me_lst (ma_cons me_int ma_nil) (fun r M ds M' h => Nat.le_trans ((ln_cons ln_nil) r M ds M' h) (by decide)))) me_int (fun _ _ => rfl)) ma_nil)) (mg_name (i := 1) nd rfl (Or.inl rfl))), (ma_cons (me_if (mp_cmp op_ge s_ge (me_var (i := 1)) (me_op op_pow s_pow me_int me_int) (nomark _)) (me_op op_fdiv s_div (me_var (i := 1)) me_int) me_int) (ma_cons (me_op op_addA s_add (me_op op_mod s_mod (me_ty call_int1 s_int (by rfl) T.z_int (by decide +kernel) (ma_cons (me_op op_addA s_add (me_op op_mulA s_mul (me_var (i := 1)) me_int) me_int) ma_nil)) me_int) me_int) ma_nil))⟩
theorem ok_Lroll (T : Tx K mg) (G : Gx tb base T) {k : Nat} {cl : Fid → FC} (C : Cl tb P w base T k cl) : FnOk P w K mg base CX0 (k + 1) T.a_Lroll T.d_Lroll ["_law_cup_here", "_law_many"] (spM tb K 2 (mFun 4 (B_Lroll cl))) :=
  have nd := sc_Lroll.nd
  m_fn T.F_Lroll sc_Lroll fun cdv A outer s H E hr => (mss_cons (ms_if (mp_cmp op_gt s_gt (me_ix ix_A s_ix (me_var (i := 0)) me_int (fun _ _ => rfl)) me_int (nomark _)) (mss_cons (ms_asg (me_op op_mod s_mod (me_ty call_int1 s_int (by rfl) T.z_int (by decide +kernel) (ma_cons (me_ix ix_A s_ix (me_var (i := 0)) me_int (fun _ _ => rfl)) ma_nil)) (me_var (i := 1))) (mg_name (i := 2) nd rfl (Or.inl rfl)))
    (mss_cons ((ps_asg (me_op op_fdiv s_div (me_ix ix_A s_ix (me_var (i := 0)) me_int (fun _ _ => rfl)) (me_var (i := 1))) (pg_sub (me_var (i := 0)) me_int set_list)).weak fun _ _ _ => mt_store)
    (mss_one (ms_ret (me_var (i := 2)))))) mss_nil)
    (mss_cons ((ps_asg (me_op op_mod s_mod (me_ty call_int1 s_int (by rfl) T.z_int (by decide +kernel) (ma_cons (me_op op_addA s_add (me_op op_mulA s_mul (me_ix ix_A s_ix (me_var (i := 0)) me_int (fun _ _ => rfl)) me_int) me_int) ma_nil)) me_int) (pg_sub (me_var (i := 0)) me_int set_list)).weak fun _ _ _ => mt_store)
    (mss_cons (ms_asg (me_op op_mod s_mod (me_ty call_int1 s_int (by rfl) T.z_int (by decide +kernel) (ma_cons (me_op op_mulA s_mul (me_ix ix_A s_ix (me_var (i := 0)) me_int (fun _ _ => rfl)) (me_op op_addA s_add (me_ix ix_A s_ix (me_var (i := 0)) me_int (fun _ _ => rfl)) me_int)) ma_nil)) me_int) (mg_name (i := 3) nd rfl (Or.inl rfl)))
    (mss_one (ms_ret (me_op op_mod s_mod (me_ty call_int1 s_int (by rfl) T.z_int (by decide +kernel) (ma_cons (me_op op_fdiv s_div (me_var (i := 3)) me_int) ma_nil)) (me_var (i := 1))))))))
theorem ok_Lsome (T : Tx K mg) (G : Gx tb base T) {k : Nat} {cl : Fid → FC} (C : Cl tb P w base T k cl) : FnOk P w K mg base CX0 (k + 1) T.a_Lsome T.d_Lsome ["_law_cup_here", "_law_things"] (spM tb K 2 (mFun 2 (B_Lsome cl))) :=
  have nd := sc_Lsome.nd
  m_fn T.F_Lsome sc_Lsome fun cdv A outer s H E hr => (mss_one (ms_ret (me_ix ix_A s_ix (me_var (i := 1)) (me_call C.Lroll hr (by rfl) T.g_Lroll T.F_Lroll.kp T.b_Lroll pass0 (ma_cons (me_var (i := 0)) (ma_cons (me_fn call_len_seq s_len (by rfl) T.z_len (by decide +kernel) (ma_cons (me_var (i := 1)) ma_nil)) ma_nil)) (ll_cons (ll_cons ll_nil))) (fun _ _ => rfl))))
theorem ok_Lpairs (T : Tx K mg) (G : Gx tb base T) {k : Nat} {cl : Fid → FC} (C : Cl tb P w base T k cl) : FnOk P w K mg base CX0 (k + 1) T.a_Lpairs T.d_Lpairs ["_law_people"] (spM tb K 1 (mFun 4 (B_Lpairs cl))) :=
  have nd := sc_Lpairs.nd
  m_fn T.F_Lpairs sc_Lpairs fun cdv A outer s H E hr => (mss_cons (ms_asg (me_lst ma_nil (fun r M ds M' h => Nat.le_trans (ln_nil r M ds M' h) (by decide))) (mg_name (i := 1) nd rfl (Or.inl rfl)))
    (mss_cons (ms_forR1 PassesOwn.never rfl (by rfl) T.z_range (ma_cons (me_var (i := 0)) ma_nil) (mg_name (i := 2) nd rfl (Or.inr rfl)) (mss_one (ms_asg (me_op op_addA s_add (me_var (i := 1)) (me_lc (own := [("_law_other", 3)]) (fun _ _ _ h => mt_lcR2 h) rfl nd (pi_range2 (by rfl) T.z_range (ma_cons (me_op op_addA s_add (me_var (i := 2)) me_int) (ma_cons (me_var (i := 0)) ma_nil))) (blkOk_by (N := n_Lpairs) (sc := defScope s_Lpairs) (by decide +kernel)) (fun _ _ _ _ _ => mw_name (i := 3) (by decide) nd rfl (Or.inl rfl)) (fun _ _ _ _ _ => mts_nil) (fun _ _ _ _ _ => (me_tup (ma_cons (me_var (i := 2)) (ma_cons (me_var (i := 3)) ma_nil)) (fun r M ds M' h => Nat.le_trans ((ln_cons (ln_cons ln_nil)) r M ds M' h) (by decide)))))) (mg_name (i := 1) nd rfl (Or.inl rfl)))))
    (mss_one (ms_ret (me_var (i := 1))))))
theorem ok_Lcompany (T : Tx K mg) (G : Gx tb base T) {k : Nat} {cl : Fid → FC} (C : Cl tb P w base T k cl) : FnOk P w K mg base CX0 (k + 1) T.a_Lcompany T.d_Lcompany ["_law_cup_here", "_law_named", "_law_least", "_law_most"] (spM tb K 4 (mFun 7 (B_Lcompany cl))) :=
  have nd := sc_Lcompany.nd
  m_fn T.F_Lcompany sc_Lcompany fun cdv A outer s H E hr => (mss_cons (ms_par2 (i := 4) (j := 5) rfl nd rfl rfl (by decide) rfl rfl (ma_cons (me_op op_addA s_add (me_op op_addA s_add (me_var (i := 1)) (me_var (i := 2))) (me_call C.Lroll hr (by rfl) T.g_Lroll T.F_Lroll.kp T.b_Lroll pass0 (ma_cons (me_var (i := 0)) (ma_cons (me_op op_addA s_add (me_op op_sub s_sub (me_var (i := 3)) (me_var (i := 2))) me_int) ma_nil)) (ll_cons (ll_cons ll_nil)))) (ma_cons (me_call C.Lroll hr (by rfl) T.g_Lroll T.F_Lroll.kp T.b_Lroll pass0 (ma_cons (me_var (i := 0)) (ma_cons me_int ma_nil)) (ll_cons (ll_cons ll_nil))) ma_nil)) (by rfl))
    (mss_cons (ms_if (mp_cmp (op_ltX (units0 hr)) s_ltX (me_var (i := 5)) me_int (nomark _)) (mss_one (ms_ret (me_tup (ma_cons (me_var (i := 4)) (ma_cons (me_if (mp_cmp (op_eqA hr.units) s_eq (me_var (i := 5)) me_int (nomark _)) (me_ty call_tuple_of s_tuple (by rfl) T.z_tuple (by decide +kernel) (ma_cons (me_call C.Lpairs hr (by rfl) T.g_Lpairs T.F_Lpairs.kp T.b_Lpairs pass0 (ma_cons (me_var (i := 4)) ma_nil) (ll_cons ll_nil)) ma_nil)) (me_tup ma_nil (fun r M ds M' h => Nat.le_trans (ln_nil r M ds M' h) (by decide)))) ma_nil)) (fun r M ds M' h => Nat.le_trans ((ln_cons (ln_cons ln_nil)) r M ds M' h) (by decide))))) mss_nil)
    (mss_one (ms_ret (me_tup (ma_cons (me_var (i := 4)) (ma_cons (me_ty call_tuple_of s_tuple (by rfl) T.z_tuple (by decide +kernel) (ma_cons (me_lc (own := [("_law_pair", 6)]) (fun _ _ _ h => mt_lcL h) rfl nd (pi_list (me_call C.Lpairs hr (by rfl) T.g_Lpairs T.F_Lpairs.kp T.b_Lpairs pass0 (ma_cons (me_var (i := 4)) ma_nil) (ll_cons ll_nil))) (blkOk_by (N := n_Lcompany) (sc := defScope s_Lcompany) (by decide +kernel)) (fun _ _ _ _ _ => mw_name (i := 6) (by decide) nd rfl (Or.inl rfl)) (fun _ _ _ _ _ => (mts_one (mp_cmp (op_eqA hr.units) s_eq (me_call C.Lroll hr (by rfl) T.g_Lroll T.F_Lroll.kp T.b_Lroll pass0 (ma_cons (me_var (i := 0)) (ma_cons me_int ma_nil)) (ll_cons (ll_cons ll_nil))) me_int (nomark _)))) (fun _ _ _ _ _ => (me_var (i := 6)))) ma_nil)) ma_nil)) (fun r M ds M' h => Nat.le_trans ((ln_cons (ln_cons ln_nil)) r M ds M' h) (by decide)))))))
theorem ok_Lanswers (T : Tx K mg) (G : Gx tb base T) {k : Nat} {cl : Fid → FC} (C : Cl tb P w base T k cl) : FnOk P w K mg base CX0 (k + 1) T.a_Lanswers T.d_Lanswers ["_law_cup_here", "_law_many"] (spM tb K 2 (mFun 3 (B_Lanswers cl))) :=
  have nd := sc_Lanswers.nd
  m_fn T.F_Lanswers sc_Lanswers fun cdv A outer s H E hr => (mss_one (ms_ret (me_ty call_tuple_of s_tuple (by rfl) T.z_tuple (by decide +kernel) (ma_cons (me_lc (own := [("_law_answer", 2)]) (fun _ _ _ h => mt_lcR1 h) rfl nd (pi_range1 (by rfl) T.z_range (ma_cons (me_var (i := 1)) ma_nil)) (blkOk_by (N := n_Lanswers) (sc := defScope s_Lanswers) (by decide +kernel)) (fun _ _ _ _ _ => mw_name (i := 2) (by decide) nd rfl (Or.inl rfl)) (fun _ _ _ _ _ => mts_nil) (fun _ _ _ _ _ => (me_call C.Lroll hr (by rfl) T.g_Lroll T.F_Lroll.kp T.b_Lroll pass0 (ma_cons (me_var (i := 0)) (ma_cons me_int ma_nil)) (ll_cons (ll_cons ll_nil))))) ma_nil))))
theorem ok_Ldeed (T : Tx K mg) (G : Gx tb base T) {k : Nat} {cl : Fid → FC} (C : Cl tb P w base T k cl) : FnOk P w K mg base CX0 (k + 1) T.a_Ldeed T.d_Ldeed ["_law_cup_here", "_law_named"] (spM tb K 2 (mFun 6 (B_Ldeed cl))) :=
  have nd := sc_Ldeed.nd
  m_fn T.F_Ldeed sc_Ldeed fun cdv A outer s H E hr => (mss_cons (ms_asg (me_call C.Lroll hr (by rfl) T.g_Lroll T.F_Lroll.kp T.b_Lroll pass0 (ma_cons (me_var (i := 0)) (ma_cons (me_var (i := 1)) ma_nil)) (ll_cons (ll_cons ll_nil))) (mg_name (i := 2) nd rfl (Or.inr rfl)))
    (mss_cons (ms_if (mw_or (mp_cmp (op_eqA hr.units) s_eq (me_var (i := 1)) me_int (nomark _)) (mw_or1 (mp_cmp (op_ltX (units0 hr)) s_ltX (me_call C.Lroll hr (by rfl) T.g_Lroll T.F_Lroll.kp T.b_Lroll pass0 (ma_cons (me_var (i := 0)) (ma_cons me_int ma_nil)) (ll_cons (ll_cons ll_nil))) me_int (nomark _)))).pt (mss_cons (ms_asg (me_lst (ma_cons (me_tup (ma_cons me_int (ma_cons me_int (ma_cons me_int (ma_cons me_int (ma_cons me_int (ma_cons me_int ma_nil)))))) (fun r M ds M' h => Nat.le_trans ((ln_cons (ln_cons (ln_cons (ln_cons (ln_cons (ln_cons ln_nil)))))) r M ds M' h) (by decide))) (ma_cons (me_tup (ma_cons me_int (ma_cons me_int (ma_cons me_int (ma_cons me_int (ma_cons me_int (ma_cons me_int ma_nil)))))) (fun r M ds M' h => Nat.le_trans ((ln_cons (ln_cons (ln_cons (ln_cons (ln_cons (ln_cons ln_nil)))))) r M ds M' h) (by decide))) (ma_cons (me_tup (ma_cons me_int (ma_cons me_int (ma_cons me_int (ma_cons me_int (ma_cons me_int (ma_cons me_int ma_nil)))))) (fun r M ds M' h => Nat.le_trans ((ln_cons (ln_cons (ln_cons (ln_cons (ln_cons (ln_cons ln_nil)))))) r M ds M' h) (by decide))) (ma_cons (me_tup (ma_cons me_int (ma_cons me_int (ma_cons me_int (ma_cons me_int (ma_cons me_int (ma_cons me_int ma_nil)))))) (fun r M ds M' h => Nat.le_trans ((ln_cons (ln_cons (ln_cons (ln_cons (ln_cons (ln_cons ln_nil)))))) r M ds M' h) (by decide))) (ma_cons (me_tup (ma_cons me_int (ma_cons me_int (ma_cons me_int (ma_cons me_int (ma_cons me_int (ma_cons me_int ma_nil)))))) (fun r M ds M' h => Nat.le_trans ((ln_cons (ln_cons (ln_cons (ln_cons (ln_cons (ln_cons ln_nil)))))) r M ds M' h) (by decide))) (ma_cons (me_tup (ma_cons me_int (ma_cons me_int (ma_cons me_int (ma_cons me_int (ma_cons me_int (ma_cons me_int ma_nil)))))) (fun r M ds M' h => Nat.le_trans ((ln_cons (ln_cons (ln_cons (ln_cons (ln_cons (ln_cons ln_nil)))))) r M ds M' h) (by decide))) (ma_cons (me_tup (ma_cons me_int (ma_cons me_int (ma_cons me_int (ma_cons me_int (ma_cons me_int (ma_cons me_int ma_nil)))))) (fun r M ds M' h => Nat.le_trans ((ln_cons (ln_cons (ln_cons (ln_cons (ln_cons (ln_cons ln_nil)))))) r M ds M' h) (by decide))) ma_nil))))))) (fun r M ds M' h => Nat.le_trans ((ln_cons (ln_cons (ln_cons (ln_cons (ln_cons (ln_cons (ln_cons ln_nil))))))) r M ds M' h) (by decide))) (mg_name (i := 3) nd rfl (Or.inl rfl)))
    (mss_one (ms_ret (me_tup (ma_cons me_str (ma_cons (me_var (i := 2)) (ma_cons (me_call C.Lsome hr (by rfl) T.g_Lsome T.F_Lsome.kp T.b_Lsome pass0 (ma_cons (me_var (i := 0)) (ma_cons (me_op op_addA s_add (me_var (i := 3)) (me_lst (ma_cons (me_call C.Lanswers hr (by rfl) T.g_Lanswers T.F_Lanswers.kp T.b_Lanswers pass0 (ma_cons (me_var (i := 0)) (ma_cons me_int ma_nil)) (ll_cons (ll_cons ll_nil))) (ma_cons (me_call C.Lanswers hr (by rfl) T.g_Lanswers T.F_Lanswers.kp T.b_Lanswers pass0 (ma_cons (me_var (i := 0)) (ma_cons me_int ma_nil)) (ll_cons (ll_cons ll_nil))) (ma_cons (me_call C.Lanswers hr (by rfl) T.g_Lanswers T.F_Lanswers.kp T.b_Lanswers pass0 (ma_cons (me_var (i := 0)) (ma_cons me_int ma_nil)) (ll_cons (ll_cons ll_nil))) ma_nil))) (fun r M ds M' h => Nat.le_trans ((ln_cons (ln_cons (ln_cons ln_nil))) r M ds M' h) (by decide)))) ma_nil)) (ll_cons (ll_cons ll_nil))) ma_nil))) (fun r M ds M' h => Nat.le_trans ((ln_cons (ln_cons (ln_cons ln_nil))) r M ds M' h) (by decide)))))) mss_nil)
    (mss_cons (ms_asg (me_call C.Lsome hr (by rfl) T.g_Lsome T.F_Lsome.kp T.b_Lsome pass0 (ma_cons (me_var (i := 0)) (ma_cons (me_lc (own := [("_law_person", 5)]) (fun _ _ _ h => mt_lcR1 h) rfl nd (pi_range1 (by rfl) T.z_range (ma_cons (me_var (i := 1)) ma_nil)) (blkOk_by (N := n_Ldeed) (sc := defScope s_Ldeed) (by decide +kernel)) (fun _ _ _ _ _ => mw_name (i := 5) (by decide) nd rfl (Or.inl rfl)) (fun _ _ _ _ _ => (mts_one (mp_cmp (op_neA hr.units) s_ne (me_var (i := 5)) (me_var (i := 2)) (nomark _)))) (fun _ _ _ _ _ => (me_var (i := 5)))) ma_nil)) (ll_cons (ll_cons ll_nil))) (mg_name (i := 4) nd rfl (Or.inl rfl)))
    (mss_cons (ms_if (mp_cmp op_gt s_gt (me_call C.Lroll hr (by rfl) T.g_Lroll T.F_Lroll.kp T.b_Lroll pass0 (ma_cons (me_var (i := 0)) (ma_cons me_int ma_nil)) (ll_cons (ll_cons ll_nil))) me_int (nomark _)) (mss_cons (ms_asg (me_lst (ma_cons (me_tup (ma_cons me_int (ma_cons me_int (ma_cons me_int (ma_cons me_int ma_nil)))) (fun r M ds M' h => Nat.le_trans ((ln_cons (ln_cons (ln_cons (ln_cons ln_nil)))) r M ds M' h) (by decide))) (ma_cons (me_tup (ma_cons me_int (ma_cons me_int (ma_cons me_int (ma_cons me_int ma_nil)))) (fun r M ds M' h => Nat.le_trans ((ln_cons (ln_cons (ln_cons (ln_cons ln_nil)))) r M ds M' h) (by decide))) (ma_cons (me_tup (ma_cons me_int (ma_cons me_int (ma_cons me_int (ma_cons me_int ma_nil)))) (fun r M ds M' h => Nat.le_trans ((ln_cons (ln_cons (ln_cons (ln_cons ln_nil)))) r M ds M' h) (by decide))) (ma_cons (me_tup (ma_cons me_int (ma_cons me_int (ma_cons me_int (ma_cons me_int ma_nil)))) (fun r M ds M' h => Nat.le_trans ((ln_cons (ln_cons (ln_cons (ln_cons ln_nil)))) r M ds M' h) (by decide))) (ma_cons (me_tup (ma_cons me_int (ma_cons me_int (ma_cons me_int (ma_cons me_int ma_nil)))) (fun r M ds M' h => Nat.le_trans ((ln_cons (ln_cons (ln_cons (ln_cons ln_nil)))) r M ds M' h) (by decide))) (ma_cons (me_call C.Lanswers hr (by rfl) T.g_Lanswers T.F_Lanswers.kp T.b_Lanswers pass0 (ma_cons (me_var (i := 0)) (ma_cons me_int ma_nil)) (ll_cons (ll_cons ll_nil))) (ma_cons (me_call C.Lanswers hr (by rfl) T.g_Lanswers T.F_Lanswers.kp T.b_Lanswers pass0 (ma_cons (me_var (i := 0)) (ma_cons me_int ma_nil)) (ll_cons (ll_cons ll_nil))) ma_nil))))))) (fun r M ds M' h => Nat.le_trans ((ln_cons (ln_cons (ln_cons (ln_cons (ln_cons (ln_cons (ln_cons ln_nil))))))) r M ds M' h) (by decide))) (mg_name (i := 3) nd rfl (Or.inl rfl)))
    (mss_one (ms_ret (me_tup (ma_cons me_str (ma_cons (me_var (i := 2)) (ma_cons (me_var (i := 4)) (ma_cons (me_call C.Lsome hr (by rfl) T.g_Lsome T.F_Lsome.kp T.b_Lsome pass0 (ma_cons (me_var (i := 0)) (ma_cons (me_var (i := 3)) ma_nil)) (ll_cons (ll_cons ll_nil))) ma_nil)))) (fun r M ds M' h => Nat.le_trans ((ln_cons (ln_cons (ln_cons (ln_cons ln_nil)))) r M ds M' h) (by decide)))))) mss_nil)
    (mss_one (ms_ret (me_tup (ma_cons me_str (ma_cons (me_var (i := 2)) (ma_cons (me_var (i := 4)) (ma_cons (me_call C.Lsome hr (by rfl) T.g_Lsome T.F_Lsome.kp T.b_Lsome pass0 (ma_cons (me_var (i := 0)) (ma_cons (me_lst (ma_cons me_str (ma_cons me_str (ma_cons me_str ma_nil))) (fun r M ds M' h => Nat.le_trans ((ln_cons (ln_cons (ln_cons ln_nil))) r M ds M' h) (by decide))) ma_nil)) (ll_cons (ll_cons ll_nil))) ma_nil)))) (fun r M ds M' h => Nat.le_trans ((ln_cons (ln_cons (ln_cons (ln_cons ln_nil)))) r M ds M' h) (by decide)))))))))
theorem ok_Ltwo (T : Tx K mg) (G : Gx tb base T) {k : Nat} {cl : Fid → FC} (C : Cl tb P w base T k cl) : FnOk P w K mg base CX0 (k + 1) T.a_Ltwo T.d_Ltwo ["_law_one", "_law_other"] (spM tb K 2 (mFun 2 (B_Ltwo cl))) :=
  have nd := sc_Ltwo.nd
  m_fn T.F_Ltwo sc_Ltwo fun cdv A outer s H E hr => (mss_one (ms_ret (me_if (mp_cmp (op_ltX (units0 hr)) s_ltX (me_var (i := 0)) (me_var (i := 1)) (nomark _)) (me_tup (ma_cons (me_var (i := 0)) (ma_cons (me_var (i := 1)) ma_nil)) (fun r M ds M' h => Nat.le_trans ((ln_cons (ln_cons ln_nil)) r M ds M' h) (by decide))) (me_tup (ma_cons (me_var (i := 1)) (ma_cons (me_var (i := 0)) ma_nil)) (fun r M ds M' h => Nat.le_trans ((ln_cons (ln_cons ln_nil)) r M ds M' h) (by decide))))))
theorem ok_Lknows (T : Tx K mg) (G : Gx tb base T) {k : Nat} {cl : Fid → FC} (C : Cl tb P w base T k cl) : FnOk P w K mg base CX0 (k + 1) T.a_Lknows T.d_Lknows ["_law_company_here", "_law_one", "_law_other"] (spM tb K 3 (mFun 3 (B_Lknows cl))) :=
  have nd := sc_Lknows.nd
  m_fn T.F_Lknows sc_Lknows fun cdv A outer s H E hr => (mss_one (ms_ret (me_cmp (op_inX (room65 hr)) s_inX (me_call C.Ltwo hr (by rfl) T.g_Ltwo T.F_Ltwo.kp T.b_Ltwo pass0 (ma_cons (me_var (i := 1)) (ma_cons (me_var (i := 2)) ma_nil)) (ll_cons (ll_cons ll_nil))) (me_ix ix_A s_ix (me_var (i := 0)) me_int (fun _ _ => rfl)) (by rfl))))
theorem ok_Lbehind (T : Tx K mg) (G : Gx tb base T) {k : Nat} {cl : Fid → FC} (C : Cl tb P w base T k cl) : FnOk P w K mg base CX0 (k + 1) T.a_Lbehind T.d_Lbehind ["_law_company_here", "_law_deed_here"] (spM tb K 2 (mFun 9 (B_Lbehind cl))) :=
  have nd := sc_Lbehind.nd
  m_fn T.F_Lbehind sc_Lbehind fun cdv A outer s H E hr => (mss_new (i := 2) nd rfl (Or.inl rfl) (nm_lst ma_nil (fun r M ds M' h => Nat.le_trans (ln_nil r M ds M' h) (by decide))) (mss_cons (ms_forL PassesOwn.never rfl (me_call C.Lpairs hr (by rfl) T.g_Lpairs T.F_Lpairs.kp T.b_Lpairs pass0 (ma_cons (me_ix ix_A s_ix (me_var (i := 0)) me_int (fun _ _ => rfl)) ma_nil) (ll_cons ll_nil)) (mg_tup rfl (mgs_cons (mg_name (i := 3) nd rfl (Or.inl rfl)) (mgs_cons (mg_name (i := 4) nd rfl (Or.inl rfl)) mgs_nil))) (mss_cons (ms_asg (me_call C.Lknows hr (by rfl) T.g_Lknows T.F_Lknows.kp T.b_Lknows pass0 (ma_cons (me_var (i := 0)) (ma_cons (me_var (i := 3)) (ma_cons (me_var (i := 4)) ma_nil))) (ll_cons (ll_cons (ll_cons ll_nil)))) (mg_name (i := 5) nd rfl (Or.inl rfl)))
    (mss_cons (ms_if (mw_and (mp_cmp (op_eqA hr.units) s_eq (me_ix ix_A s_ix (me_var (i := 1)) me_int (fun _ _ => rfl)) me_str (nomark _)) (mw_and1 (mp_cmp (op_notInX (room65 hr)) s_notInX (me_ix ix_A s_ix (me_var (i := 1)) me_int (fun _ _ => rfl)) (me_tup (ma_cons (me_var (i := 3)) (ma_cons (me_var (i := 4)) ma_nil)) (fun r M ds M' h => Nat.le_trans ((ln_cons (ln_cons ln_nil)) r M ds M' h) (by decide))) (by rfl)))).pt (mss_cons (ms_asg (me_count (me_lc (own := [("_law_person", 8)]) (fun _ _ _ h => mt_lcT h) rfl nd (pi_tup (me_tup (ma_cons (me_var (i := 3)) (ma_cons (me_var (i := 4)) ma_nil)) (fun r M ds M' h => Nat.le_trans ((ln_cons (ln_cons ln_nil)) r M ds M' h) (by decide)))) (blkOk_by (N := n_Lbehind) (sc := defScope s_Lbehind) (by decide +kernel)) (fun _ _ _ _ _ => mw_name (i := 8) (by decide) nd rfl (Or.inl rfl)) (fun _ _ _ _ _ => mts_nil) (fun _ _ _ _ _ => (me_call C.Lknows hr (by rfl) T.g_Lknows T.F_Lknows.kp T.b_Lknows pass0 (ma_cons (me_var (i := 0)) (ma_cons (me_ix ix_A s_ix (me_var (i := 1)) me_int (fun _ _ => rfl)) (ma_cons (me_var (i := 8)) ma_nil))) (ll_cons (ll_cons (ll_cons ll_nil)))))) me_bl) (mg_name (i := 6) nd rfl (Or.inl rfl)))
    (mss_one (ms_asg (me_cmp (op_eqA hr.units) s_eq (me_ix ix_A s_ix (me_ix ix_A s_ix (me_var (i := 1)) me_int (fun _ _ => rfl)) (me_op op_addA s_add (me_if (mp_val (me_var (i := 5))) me_int me_int) (me_var (i := 6))) (fun _ _ => rfl)) me_int (nomark _)) (mg_name (i := 5) nd rfl (Or.inl rfl))))) (mss_one (ms_if (mw_and (mp_cmp (op_eqA hr.units) s_eq (me_ix ix_A s_ix (me_var (i := 1)) me_int (fun _ _ => rfl)) me_str (nomark _)) (mw_and (mp_cmp (op_inX (room65 hr)) s_inX (me_ix ix_A s_ix (me_var (i := 1)) me_int (fun _ _ => rfl)) (me_tup (ma_cons (me_var (i := 3)) (ma_cons (me_var (i := 4)) ma_nil)) (fun r M ds M' h => Nat.le_trans ((ln_cons (ln_cons ln_nil)) r M ds M' h) (by decide))) (by rfl)) (mw_and1 (mp_cmp (op_notInX (room65 hr)) s_notInX (me_ix ix_A s_ix (me_var (i := 1)) me_int (fun _ _ => rfl)) (me_tup (ma_cons (me_var (i := 3)) (ma_cons (me_var (i := 4)) ma_nil)) (fun r M ds M' h => Nat.le_trans ((ln_cons (ln_cons ln_nil)) r M ds M' h) (by decide))) (by rfl))))).pt (mss_cons (ms_asg (me_if (mp_cmp (op_eqA hr.units) s_eq (me_ix ix_A s_ix (me_var (i := 1)) me_int (fun _ _ => rfl)) (me_var (i := 3)) (nomark _)) (me_var (i := 4)) (me_var (i := 3))) (mg_name (i := 7) nd rfl (Or.inl rfl)))
    (mss_one (ms_asg (me_cmp (op_eqA hr.units) s_eq (me_ix ix_A s_ix (me_ix ix_A s_ix (me_var (i := 1)) me_int (fun _ _ => rfl)) (me_op op_addA s_add (me_if (mp_val (me_var (i := 5))) me_int me_int) (me_if (mp_val (me_call C.Lknows hr (by rfl) T.g_Lknows T.F_Lknows.kp T.b_Lknows pass0 (ma_cons (me_var (i := 0)) (ma_cons (me_ix ix_A s_ix (me_var (i := 1)) me_int (fun _ _ => rfl)) (ma_cons (me_var (i := 7)) ma_nil))) (ll_cons (ll_cons (ll_cons ll_nil))))) me_int me_int)) (fun _ _ => rfl)) me_int (nomark _)) (mg_name (i := 5) nd rfl (Or.inl rfl))))) (mss_one (ms_if (mw_and (mp_cmp (op_eqA hr.units) s_eq (me_ix ix_A s_ix (me_var (i := 1)) me_int (fun _ _ => rfl)) me_str (nomark _)) (mw_and1 (mp_cmp (op_eqA hr.units) s_eq (me_call C.Ltwo hr (by rfl) T.g_Ltwo T.F_Ltwo.kp T.b_Ltwo pass0 (ma_cons (me_ix ix_A s_ix (me_var (i := 1)) me_int (fun _ _ => rfl)) (ma_cons (me_ix ix_A s_ix (me_var (i := 1)) me_int (fun _ _ => rfl)) ma_nil)) (ll_cons (ll_cons ll_nil))) (me_tup (ma_cons (me_var (i := 3)) (ma_cons (me_var (i := 4)) ma_nil)) (fun r M ds M' h => Nat.le_trans ((ln_cons (ln_cons ln_nil)) r M ds M' h) (by decide))) (nomark _)))).pt (mss_one (ms_asg (me_ix (ix_X (hu_of hr)) s_ixX (me_disp .k (hu_of hr) (pps_m me_str me_bl (pps_m me_str me_bl (pps_m me_str (me_not (me_var (i := 5))) pps_nil)))) (me_ix ix_A s_ix (me_var (i := 1)) me_int (fun _ _ => rfl)) (fun _ _ => rfl)) (mg_name (i := 5) nd rfl (Or.inl rfl)))) mss_nil)))))
    (mss_one (ms_if (mp_val (me_var (i := 5))) (mss_one (ms_expr (me_append (me_var (i := 2)) (me_tup (ma_cons (me_var (i := 3)) (ma_cons (me_var (i := 4)) ma_nil)) (fun r M ds M' h => Nat.le_trans ((ln_cons (ln_cons ln_nil)) r M ds M' h) (by decide)))))) mss_nil)))))
    (mss_one (ms_ret (me_tup (ma_cons (me_ix ix_A s_ix (me_var (i := 0)) me_int (fun _ _ => rfl)) (ma_cons (me_ty call_tuple_of s_tuple (by rfl) T.z_tuple (by decide +kernel) (ma_cons (me_var (i := 2)) ma_nil)) ma_nil)) (fun r M ds M' h => Nat.le_trans ((ln_cons (ln_cons ln_nil)) r M ds M' h) (by decide)))))))
theorem all_ok (T : Tx K mg) (gx : Gx tb base T) : ∀ k : Nat, Cl tb P w base T k (G T.a_Bundle k)
  | 0 => ⟨fn0, fn0, fn0, fn0, fn0, fn0, fn0, fn0, fn0, fn0, fn0, fn0, fn0, fn0, fn0, fn0, fn0, fn0, fn0, fn0, fn0, fn0, fn0, fn0, fn0, fn0, fn0, fn0, fn0, fn0, fn0, fn0, fn0, fn0, fn0, fn0, fn0, fn0, fn0, fn0, fn0, fun _ _ _ h => by cases h⟩
  | k + 1 => ⟨ok_p_pairs_of T gx (all_ok T gx k), ok_p_pair_of T gx (all_ok T gx k), ok_Bundle_knowing T gx (all_ok T gx k), ok_Bundle_with_ties T gx (all_ok T gx k), ok_p_bundle_of T gx (all_ok T gx k), ok_p_company_in T gx (all_ok T gx k), ok_p_answered T gx (all_ok T gx k), ok_p_pairs_done T gx (all_ok T gx k), ok_p_takes_done T gx (all_ok T gx k), ok_p_tie_done T gx (all_ok T gx k), ok_p_deed_done T gx (all_ok T gx k), ok_p_choice_done T gx (all_ok T gx k), ok_p_items_done T gx (all_ok T gx k), ok_p_company_done T gx (all_ok T gx k), ok_p_is_integer T gx (all_ok T gx k), ok_p_is_between T gx (all_ok T gx k), ok_p_is_tuple_of T gx (all_ok T gx k), ok_p_is_ascending T gx (all_ok T gx k), ok_p_is_pair_of T gx (all_ok T gx k), ok_p_are_ties_of T gx (all_ok T gx k), ok_p_is_company_of T gx (all_ok T gx k), ok_p_are_answers T gx (all_ok T gx k), ok_p_are_two_named T gx (all_ok T gx k), ok_p_is_deed_of T gx (all_ok T gx k), ok_p_is_asking T gx (all_ok T gx k), ok_p_left_behind T gx (all_ok T gx k), ok_p_left_behind_item T gx (all_ok T gx k), ok_p_is_script_of T gx (all_ok T gx k), ok_p_check_named T gx (all_ok T gx k), ok_p_check_company T gx (all_ok T gx k), ok_p_check_script T gx (all_ok T gx k), ok_p_done T gx (all_ok T gx k), ok_Lroll T gx (all_ok T gx k), ok_Lsome T gx (all_ok T gx k), ok_Lpairs T gx (all_ok T gx k), ok_Lcompany T gx (all_ok T gx k), ok_Lanswers T gx (all_ok T gx k), ok_Ldeed T gx (all_ok T gx k), ok_Ltwo T gx (all_ok T gx k), ok_Lknows T gx (all_ok T gx k), ok_Lbehind T gx (all_ok T gx k), fun ds M r h => by
      cases k with
      | zero => cases h
      | succ k => exact ⟨by omega, h⟩⟩
/-- .. and the list's maker -/
structure ClL (tb : List Addr) (P : Program) (w : World) (base : Heap) (T : Tx K mg) (k : Nat) (cl : Fid → FC) : Prop extends Cl tb P w base T k cl where
  Lcup : FnOk P w K mg base CX0 k T.a_Lcup T.d_Lcup ["_law_script"] (spF tb K 1 g_Lcup)
theorem ok_Law (T : Tx K mg) (G : Gx tb base T) {k : Nat} {cl : Fid → FC} (C : ClL tb P w base T k cl) : FnOk P w K mg base CX0 (k + 1) T.a_Law T.d_Law ["_law_script"] (spM tb K 1 (mFun 10 (B_Law cl))) :=
  have nd := sc_Law.nd
  m_fn T.F_Law sc_Law fun cdv A outer s H E hr => (mss_mu (i := 1) C.Lcup hr (by rfl) T.g_Lcup T.F_Lcup.kp T.b_Lcup pass0 (ma_cons (me_var (i := 0)) ma_nil) (ll_cons ll_nil) nd rfl (Or.inl rfl) (mss_cons (ms_forR1 PassesOwn.never rfl (by rfl) T.z_range (ma_cons me_int ma_nil) (mg_name (i := 2) nd rfl (Or.inl rfl)) (mss_cons (ms_asg (me_call C.Lsome hr (by rfl) T.g_Lsome T.F_Lsome.kp T.b_Lsome pass0 (ma_cons (me_var (i := 1)) (ma_cons (me_lst (ma_cons me_int (ma_cons me_int (ma_cons me_int (ma_cons me_int ma_nil)))) (fun r M ds M' h => Nat.le_trans ((ln_cons (ln_cons (ln_cons (ln_cons ln_nil)))) r M ds M' h) (by decide))) ma_nil)) (ll_cons (ll_cons ll_nil))) (mg_name (i := 3) nd rfl (Or.inl rfl)))
    (mss_cons (ms_par2 (i := 4) (j := 5) rfl nd rfl rfl (by decide) rfl rfl (ma_cons (me_call C.Lcompany hr (by rfl) T.g_Lcompany T.F_Lcompany.kp T.b_Lcompany pass0 (ma_cons (me_var (i := 1)) (ma_cons (me_var (i := 3)) (ma_cons me_int (ma_cons me_int ma_nil)))) (ll_cons (ll_cons (ll_cons (ll_cons ll_nil))))) (ma_cons (me_call C.Ldeed hr (by rfl) T.g_Ldeed T.F_Ldeed.kp T.b_Ldeed pass0 (ma_cons (me_var (i := 1)) (ma_cons (me_var (i := 3)) ma_nil)) (ll_cons (ll_cons ll_nil))) ma_nil)) (by rfl))
    (mss_one (ms_if (mp_cmp (op_neA hr.units) s_ne (me_call C.p_done hr (by rfl) T.g_p_done T.F_p_done.kp T.b_p_done pass0 (ma_cons (me_var (i := 3)) (ma_cons (me_var (i := 4)) (ma_cons (me_tup (ma_cons (me_var (i := 5)) ma_nil) (fun r M ds M' h => Nat.le_trans ((ln_cons ln_nil) r M ds M' h) (by decide))) ma_nil))) (ll_cons (ll_cons (ll_cons ll_nil)))) (me_call C.Lbehind hr (by rfl) T.g_Lbehind T.F_Lbehind.kp T.b_Lbehind pass0 (ma_cons (me_var (i := 4)) (ma_cons (me_var (i := 5)) ma_nil)) (ll_cons (ll_cons ll_nil))) (nomark _)) (mss_one (ms_ret me_bl)) mss_nil)))))
    (mss_cons (ms_asg (me_tup (ma_cons (me_tup (ma_cons me_int (ma_cons (me_tup (ma_cons (me_tup (ma_cons me_int (ma_cons me_int ma_nil)) (fun r M ds M' h => Nat.le_trans ((ln_cons (ln_cons ln_nil)) r M ds M' h) (by decide))) (ma_cons (me_tup (ma_cons me_int (ma_cons me_int ma_nil)) (fun r M ds M' h => Nat.le_trans ((ln_cons (ln_cons ln_nil)) r M ds M' h) (by decide))) ma_nil)) (fun r M ds M' h => Nat.le_trans ((ln_cons (ln_cons ln_nil)) r M ds M' h) (by decide))) ma_nil)) (fun r M ds M' h => Nat.le_trans ((ln_cons (ln_cons ln_nil)) r M ds M' h) (by decide))) (ma_cons (me_tup (ma_cons me_int (ma_cons (me_tup (ma_cons (me_tup (ma_cons me_int (ma_cons me_int ma_nil)) (fun r M ds M' h => Nat.le_trans ((ln_cons (ln_cons ln_nil)) r M ds M' h) (by decide))) (ma_cons (me_tup (ma_cons me_int (ma_cons me_int ma_nil)) (fun r M ds M' h => Nat.le_trans ((ln_cons (ln_cons ln_nil)) r M ds M' h) (by decide))) (ma_cons (me_tup (ma_cons me_int (ma_cons me_int ma_nil)) (fun r M ds M' h => Nat.le_trans ((ln_cons (ln_cons ln_nil)) r M ds M' h) (by decide))) (ma_cons (me_tup (ma_cons me_int (ma_cons me_int ma_nil)) (fun r M ds M' h => Nat.le_trans ((ln_cons (ln_cons ln_nil)) r M ds M' h) (by decide))) (ma_cons (me_tup (ma_cons me_int (ma_cons me_int ma_nil)) (fun r M ds M' h => Nat.le_trans ((ln_cons (ln_cons ln_nil)) r M ds M' h) (by decide))) (ma_cons (me_tup (ma_cons me_int (ma_cons me_int ma_nil)) (fun r M ds M' h => Nat.le_trans ((ln_cons (ln_cons ln_nil)) r M ds M' h) (by decide))) ma_nil)))))) (fun r M ds M' h => Nat.le_trans ((ln_cons (ln_cons (ln_cons (ln_cons (ln_cons (ln_cons ln_nil)))))) r M ds M' h) (by decide))) ma_nil)) (fun r M ds M' h => Nat.le_trans ((ln_cons (ln_cons ln_nil)) r M ds M' h) (by decide))) ma_nil)) (fun r M ds M' h => Nat.le_trans ((ln_cons (ln_cons ln_nil)) r M ds M' h) (by decide))) (mg_tup rfl (mgs_cons (mg_name (i := 6) nd rfl (Or.inl rfl)) (mgs_cons (mg_name (i := 7) nd rfl (Or.inl rfl)) mgs_nil))))
    (mss_cons (ms_asg (me_lst (ma_cons (me_tup (ma_cons me_int (ma_cons (me_var (i := 6)) (ma_cons (me_tup (ma_cons me_str (ma_cons me_int (ma_cons me_int (ma_cons (me_tup (ma_cons me_int (ma_cons me_int (ma_cons me_int (ma_cons me_int ma_nil)))) (fun r M ds M' h => Nat.le_trans ((ln_cons (ln_cons (ln_cons (ln_cons ln_nil)))) r M ds M' h) (by decide))) ma_nil)))) (fun r M ds M' h => Nat.le_trans ((ln_cons (ln_cons (ln_cons (ln_cons ln_nil)))) r M ds M' h) (by decide))) (ma_cons (me_tup (ma_cons (me_tup (ma_cons me_int (ma_cons me_int ma_nil)) (fun r M ds M' h => Nat.le_trans ((ln_cons (ln_cons ln_nil)) r M ds M' h) (by decide))) (ma_cons (me_tup (ma_cons me_int (ma_cons me_int ma_nil)) (fun r M ds M' h => Nat.le_trans ((ln_cons (ln_cons ln_nil)) r M ds M' h) (by decide))) (ma_cons (me_tup (ma_cons me_int (ma_cons me_int ma_nil)) (fun r M ds M' h => Nat.le_trans ((ln_cons (ln_cons ln_nil)) r M ds M' h) (by decide))) ma_nil))) (fun r M ds M' h => Nat.le_trans ((ln_cons (ln_cons (ln_cons ln_nil))) r M ds M' h) (by decide))) ma_nil)))) (fun r M ds M' h => Nat.le_trans ((ln_cons (ln_cons (ln_cons (ln_cons ln_nil)))) r M ds M' h) (by decide))) (ma_cons (me_tup (ma_cons me_int (ma_cons (me_var (i := 6)) (ma_cons (me_tup (ma_cons me_str (ma_cons me_int (ma_cons me_int (ma_cons (me_tup (ma_cons me_int (ma_cons me_int (ma_cons me_int (ma_cons me_int ma_nil)))) (fun r M ds M' h => Nat.le_trans ((ln_cons (ln_cons (ln_cons (ln_cons ln_nil)))) r M ds M' h) (by decide))) ma_nil)))) (fun r M ds M' h => Nat.le_trans ((ln_cons (ln_cons (ln_cons (ln_cons ln_nil)))) r M ds M' h) (by decide))) (ma_cons (me_tup (ma_cons (me_tup (ma_cons me_int (ma_cons me_int ma_nil)) (fun r M ds M' h => Nat.le_trans ((ln_cons (ln_cons ln_nil)) r M ds M' h) (by decide))) (ma_cons (me_tup (ma_cons me_int (ma_cons me_int ma_nil)) (fun r M ds M' h => Nat.le_trans ((ln_cons (ln_cons ln_nil)) r M ds M' h) (by decide))) ma_nil)) (fun r M ds M' h => Nat.le_trans ((ln_cons (ln_cons ln_nil)) r M ds M' h) (by decide))) ma_nil)))) (fun r M ds M' h => Nat.le_trans ((ln_cons (ln_cons (ln_cons (ln_cons ln_nil)))) r M ds M' h) (by decide))) ma_nil)) (fun r M ds M' h => Nat.le_trans ((ln_cons (ln_cons ln_nil)) r M ds M' h) (by decide))) (mg_name (i := 8) nd rfl (Or.inl rfl)))
    (mss_cons (ms_asg (me_op op_addA s_add (me_var (i := 8)) (me_lst (ma_cons (me_tup (ma_cons me_int (ma_cons (me_var (i := 6)) (ma_cons (me_tup (ma_cons me_str (ma_cons me_int (ma_cons (me_tup (ma_cons me_int (ma_cons me_int (ma_cons me_int (ma_cons me_int (ma_cons me_int (ma_cons me_int ma_nil)))))) (fun r M ds M' h => Nat.le_trans ((ln_cons (ln_cons (ln_cons (ln_cons (ln_cons (ln_cons ln_nil)))))) r M ds M' h) (by decide))) ma_nil))) (fun r M ds M' h => Nat.le_trans ((ln_cons (ln_cons (ln_cons ln_nil))) r M ds M' h) (by decide))) (ma_cons (me_tup (ma_cons (me_tup (ma_cons me_int (ma_cons me_int ma_nil)) (fun r M ds M' h => Nat.le_trans ((ln_cons (ln_cons ln_nil)) r M ds M' h) (by decide))) ma_nil) (fun r M ds M' h => Nat.le_trans ((ln_cons ln_nil) r M ds M' h) (by decide))) ma_nil)))) (fun r M ds M' h => Nat.le_trans ((ln_cons (ln_cons (ln_cons (ln_cons ln_nil)))) r M ds M' h) (by decide))) (ma_cons (me_tup (ma_cons me_int (ma_cons (me_var (i := 6)) (ma_cons (me_tup (ma_cons me_str (ma_cons me_int (ma_cons (me_tup (ma_cons me_int (ma_cons me_int (ma_cons me_int (ma_cons me_int (ma_cons me_int (ma_cons me_int ma_nil)))))) (fun r M ds M' h => Nat.le_trans ((ln_cons (ln_cons (ln_cons (ln_cons (ln_cons (ln_cons ln_nil)))))) r M ds M' h) (by decide))) ma_nil))) (fun r M ds M' h => Nat.le_trans ((ln_cons (ln_cons (ln_cons ln_nil))) r M ds M' h) (by decide))) (ma_cons (me_tup (ma_cons (me_tup (ma_cons me_int (ma_cons me_int ma_nil)) (fun r M ds M' h => Nat.le_trans ((ln_cons (ln_cons ln_nil)) r M ds M' h) (by decide))) (ma_cons (me_tup (ma_cons me_int (ma_cons me_int ma_nil)) (fun r M ds M' h => Nat.le_trans ((ln_cons (ln_cons ln_nil)) r M ds M' h) (by decide))) (ma_cons (me_tup (ma_cons me_int (ma_cons me_int ma_nil)) (fun r M ds M' h => Nat.le_trans ((ln_cons (ln_cons ln_nil)) r M ds M' h) (by decide))) (ma_cons (me_tup (ma_cons me_int (ma_cons me_int ma_nil)) (fun r M ds M' h => Nat.le_trans ((ln_cons (ln_cons ln_nil)) r M ds M' h) (by decide))) ma_nil)))) (fun r M ds M' h => Nat.le_trans ((ln_cons (ln_cons (ln_cons (ln_cons ln_nil)))) r M ds M' h) (by decide))) ma_nil)))) (fun r M ds M' h => Nat.le_trans ((ln_cons (ln_cons (ln_cons (ln_cons ln_nil)))) r M ds M' h) (by decide))) ma_nil)) (fun r M ds M' h => Nat.le_trans ((ln_cons (ln_cons ln_nil)) r M ds M' h) (by decide)))) (mg_name (i := 8) nd rfl (Or.inl rfl)))
    (mss_cons (ms_asg (me_op op_addA s_add (me_var (i := 8)) (me_lst (ma_cons (me_tup (ma_cons me_int (ma_cons (me_var (i := 6)) (ma_cons (me_tup (ma_cons me_str (ma_cons me_int (ma_cons (me_tup (ma_cons me_int (ma_cons me_int (ma_cons me_int (ma_cons me_int (ma_cons me_int (ma_cons me_int ma_nil)))))) (fun r M ds M' h => Nat.le_trans ((ln_cons (ln_cons (ln_cons (ln_cons (ln_cons (ln_cons ln_nil)))))) r M ds M' h) (by decide))) ma_nil))) (fun r M ds M' h => Nat.le_trans ((ln_cons (ln_cons (ln_cons ln_nil))) r M ds M' h) (by decide))) (ma_cons (me_tup (ma_cons (me_tup (ma_cons me_int (ma_cons me_int ma_nil)) (fun r M ds M' h => Nat.le_trans ((ln_cons (ln_cons ln_nil)) r M ds M' h) (by decide))) ma_nil) (fun r M ds M' h => Nat.le_trans ((ln_cons ln_nil) r M ds M' h) (by decide))) ma_nil)))) (fun r M ds M' h => Nat.le_trans ((ln_cons (ln_cons (ln_cons (ln_cons ln_nil)))) r M ds M' h) (by decide))) (ma_cons (me_tup (ma_cons me_int (ma_cons (me_var (i := 6)) (ma_cons (me_tup (ma_cons me_str (ma_cons me_int (ma_cons (me_tup (ma_cons me_int (ma_cons me_int (ma_cons me_int (ma_cons me_int (ma_cons me_int (ma_cons me_int ma_nil)))))) (fun r M ds M' h => Nat.le_trans ((ln_cons (ln_cons (ln_cons (ln_cons (ln_cons (ln_cons ln_nil)))))) r M ds M' h) (by decide))) ma_nil))) (fun r M ds M' h => Nat.le_trans ((ln_cons (ln_cons (ln_cons ln_nil))) r M ds M' h) (by decide))) (ma_cons (me_tup (ma_cons (me_tup (ma_cons me_int (ma_cons me_int ma_nil)) (fun r M ds M' h => Nat.le_trans ((ln_cons (ln_cons ln_nil)) r M ds M' h) (by decide))) (ma_cons (me_tup (ma_cons me_int (ma_cons me_int ma_nil)) (fun r M ds M' h => Nat.le_trans ((ln_cons (ln_cons ln_nil)) r M ds M' h) (by decide))) (ma_cons (me_tup (ma_cons me_int (ma_cons me_int ma_nil)) (fun r M ds M' h => Nat.le_trans ((ln_cons (ln_cons ln_nil)) r M ds M' h) (by decide))) ma_nil))) (fun r M ds M' h => Nat.le_trans ((ln_cons (ln_cons (ln_cons ln_nil))) r M ds M' h) (by decide))) ma_nil)))) (fun r M ds M' h => Nat.le_trans ((ln_cons (ln_cons (ln_cons (ln_cons ln_nil)))) r M ds M' h) (by decide))) ma_nil)) (fun r M ds M' h => Nat.le_trans ((ln_cons (ln_cons ln_nil)) r M ds M' h) (by decide)))) (mg_name (i := 8) nd rfl (Or.inl rfl)))
    (mss_cons (ms_asg (me_op op_addA s_add (me_var (i := 8)) (me_lst (ma_cons (me_tup (ma_cons me_int (ma_cons (me_var (i := 6)) (ma_cons (me_tup (ma_cons me_str (ma_cons me_int (ma_cons me_int (ma_cons me_str ma_nil)))) (fun r M ds M' h => Nat.le_trans ((ln_cons (ln_cons (ln_cons (ln_cons ln_nil)))) r M ds M' h) (by decide))) (ma_cons (me_tup (ma_cons (me_tup (ma_cons me_int (ma_cons me_int ma_nil)) (fun r M ds M' h => Nat.le_trans ((ln_cons (ln_cons ln_nil)) r M ds M' h) (by decide))) (ma_cons (me_tup (ma_cons me_int (ma_cons me_int ma_nil)) (fun r M ds M' h => Nat.le_trans ((ln_cons (ln_cons ln_nil)) r M ds M' h) (by decide))) (ma_cons (me_tup (ma_cons me_int (ma_cons me_int ma_nil)) (fun r M ds M' h => Nat.le_trans ((ln_cons (ln_cons ln_nil)) r M ds M' h) (by decide))) ma_nil))) (fun r M ds M' h => Nat.le_trans ((ln_cons (ln_cons (ln_cons ln_nil))) r M ds M' h) (by decide))) ma_nil)))) (fun r M ds M' h => Nat.le_trans ((ln_cons (ln_cons (ln_cons (ln_cons ln_nil)))) r M ds M' h) (by decide))) (ma_cons (me_tup (ma_cons me_int (ma_cons (me_var (i := 6)) (ma_cons (me_tup (ma_cons me_str (ma_cons me_int (ma_cons me_int (ma_cons me_str ma_nil)))) (fun r M ds M' h => Nat.le_trans ((ln_cons (ln_cons (ln_cons (ln_cons ln_nil)))) r M ds M' h) (by decide))) (ma_cons (me_tup (ma_cons (me_tup (ma_cons me_int (ma_cons me_int ma_nil)) (fun r M ds M' h => Nat.le_trans ((ln_cons (ln_cons ln_nil)) r M ds M' h) (by decide))) (ma_cons (me_tup (ma_cons me_int (ma_cons me_int ma_nil)) (fun r M ds M' h => Nat.le_trans ((ln_cons (ln_cons ln_nil)) r M ds M' h) (by decide))) (ma_cons (me_tup (ma_cons me_int (ma_cons me_int ma_nil)) (fun r M ds M' h => Nat.le_trans ((ln_cons (ln_cons ln_nil)) r M ds M' h) (by decide))) ma_nil))) (fun r M ds M' h => Nat.le_trans ((ln_cons (ln_cons (ln_cons ln_nil))) r M ds M' h) (by decide))) ma_nil)))) (fun r M ds M' h => Nat.le_trans ((ln_cons (ln_cons (ln_cons (ln_cons ln_nil)))) r M ds M' h) (by decide))) (ma_cons (me_tup (ma_cons me_int (ma_cons (me_var (i := 6)) (ma_cons (me_tup (ma_cons me_str (ma_cons me_int (ma_cons me_int (ma_cons me_str ma_nil)))) (fun r M ds M' h => Nat.le_trans ((ln_cons (ln_cons (ln_cons (ln_cons ln_nil)))) r M ds M' h) (by decide))) (ma_cons (me_tup (ma_cons (me_tup (ma_cons me_int (ma_cons me_int ma_nil)) (fun r M ds M' h => Nat.le_trans ((ln_cons (ln_cons ln_nil)) r M ds M' h) (by decide))) (ma_cons (me_tup (ma_cons me_int (ma_cons me_int ma_nil)) (fun r M ds M' h => Nat.le_trans ((ln_cons (ln_cons ln_nil)) r M ds M' h) (by decide))) ma_nil)) (fun r M ds M' h => Nat.le_trans ((ln_cons (ln_cons ln_nil)) r M ds M' h) (by decide))) ma_nil)))) (fun r M ds M' h => Nat.le_trans ((ln_cons (ln_cons (ln_cons (ln_cons ln_nil)))) r M ds M' h) (by decide))) ma_nil))) (fun r M ds M' h => Nat.le_trans ((ln_cons (ln_cons (ln_cons ln_nil))) r M ds M' h) (by decide)))) (mg_name (i := 8) nd rfl (Or.inl rfl)))
    (mss_cons (ms_asg (me_op op_addA s_add (me_var (i := 8)) (me_lst (ma_cons (me_tup (ma_cons me_int (ma_cons (me_var (i := 6)) (ma_cons (me_tup (ma_cons me_str (ma_cons me_int (ma_cons me_int (ma_cons (me_tup (ma_cons me_int (ma_cons me_int (ma_cons me_int (ma_cons me_int ma_nil)))) (fun r M ds M' h => Nat.le_trans ((ln_cons (ln_cons (ln_cons (ln_cons ln_nil)))) r M ds M' h) (by decide))) ma_nil)))) (fun r M ds M' h => Nat.le_trans ((ln_cons (ln_cons (ln_cons (ln_cons ln_nil)))) r M ds M' h) (by decide))) (ma_cons (me_tup (ma_cons (me_tup (ma_cons me_int (ma_cons me_int ma_nil)) (fun r M ds M' h => Nat.le_trans ((ln_cons (ln_cons ln_nil)) r M ds M' h) (by decide))) (ma_cons (me_tup (ma_cons me_int (ma_cons me_int ma_nil)) (fun r M ds M' h => Nat.le_trans ((ln_cons (ln_cons ln_nil)) r M ds M' h) (by decide))) ma_nil)) (fun r M ds M' h => Nat.le_trans ((ln_cons (ln_cons ln_nil)) r M ds M' h) (by decide))) ma_nil)))) (fun r M ds M' h => Nat.le_trans ((ln_cons (ln_cons (ln_cons (ln_cons ln_nil)))) r M ds M' h) (by decide))) (ma_cons (me_tup (ma_cons me_int (ma_cons (me_var (i := 6)) (ma_cons (me_tup (ma_cons me_str (ma_cons me_int (ma_cons (me_tup (ma_cons me_int (ma_cons me_int (ma_cons me_int (ma_cons me_int (ma_cons me_int (ma_cons me_int ma_nil)))))) (fun r M ds M' h => Nat.le_trans ((ln_cons (ln_cons (ln_cons (ln_cons (ln_cons (ln_cons ln_nil)))))) r M ds M' h) (by decide))) ma_nil))) (fun r M ds M' h => Nat.le_trans ((ln_cons (ln_cons (ln_cons ln_nil))) r M ds M' h) (by decide))) (ma_cons (me_tup (ma_cons (me_tup (ma_cons me_int (ma_cons me_int ma_nil)) (fun r M ds M' h => Nat.le_trans ((ln_cons (ln_cons ln_nil)) r M ds M' h) (by decide))) ma_nil) (fun r M ds M' h => Nat.le_trans ((ln_cons ln_nil) r M ds M' h) (by decide))) ma_nil)))) (fun r M ds M' h => Nat.le_trans ((ln_cons (ln_cons (ln_cons (ln_cons ln_nil)))) r M ds M' h) (by decide))) (ma_cons (me_tup (ma_cons me_int (ma_cons (me_var (i := 6)) (ma_cons (me_tup (ma_cons me_str (ma_cons me_int (ma_cons me_int (ma_cons me_str ma_nil)))) (fun r M ds M' h => Nat.le_trans ((ln_cons (ln_cons (ln_cons (ln_cons ln_nil)))) r M ds M' h) (by decide))) (ma_cons (me_tup (ma_cons (me_tup (ma_cons me_int (ma_cons me_int ma_nil)) (fun r M ds M' h => Nat.le_trans ((ln_cons (ln_cons ln_nil)) r M ds M' h) (by decide))) ma_nil) (fun r M ds M' h => Nat.le_trans ((ln_cons ln_nil) r M ds M' h) (by decide))) ma_nil)))) (fun r M ds M' h => Nat.le_trans ((ln_cons (ln_cons (ln_cons (ln_cons ln_nil)))) r M ds M' h) (by decide))) ma_nil))) (fun r M ds M' h => Nat.le_trans ((ln_cons (ln_cons (ln_cons ln_nil))) r M ds M' h) (by decide)))) (mg_name (i := 8) nd rfl (Or.inl rfl)))
    (mss_cons (ms_asg (me_op op_addA s_add (me_var (i := 8)) (me_lst (ma_cons (me_tup (ma_cons me_int (ma_cons (me_var (i := 7)) (ma_cons (me_tup (ma_cons me_str (ma_cons me_int (ma_cons (me_tup (ma_cons me_int (ma_cons me_int (ma_cons me_int (ma_cons me_int (ma_cons me_int (ma_cons me_int ma_nil)))))) (fun r M ds M' h => Nat.le_trans ((ln_cons (ln_cons (ln_cons (ln_cons (ln_cons (ln_cons ln_nil)))))) r M ds M' h) (by decide))) ma_nil))) (fun r M ds M' h => Nat.le_trans ((ln_cons (ln_cons (ln_cons ln_nil))) r M ds M' h) (by decide))) (ma_cons (me_tup (ma_cons (me_tup (ma_cons me_int (ma_cons me_int ma_nil)) (fun r M ds M' h => Nat.le_trans ((ln_cons (ln_cons ln_nil)) r M ds M' h) (by decide))) (ma_cons (me_tup (ma_cons me_int (ma_cons me_int ma_nil)) (fun r M ds M' h => Nat.le_trans ((ln_cons (ln_cons ln_nil)) r M ds M' h) (by decide))) (ma_cons (me_tup (ma_cons me_int (ma_cons me_int ma_nil)) (fun r M ds M' h => Nat.le_trans ((ln_cons (ln_cons ln_nil)) r M ds M' h) (by decide))) ma_nil))) (fun r M ds M' h => Nat.le_trans ((ln_cons (ln_cons (ln_cons ln_nil))) r M ds M' h) (by decide))) ma_nil)))) (fun r M ds M' h => Nat.le_trans ((ln_cons (ln_cons (ln_cons (ln_cons ln_nil)))) r M ds M' h) (by decide))) (ma_cons (me_tup (ma_cons me_int (ma_cons (me_var (i := 7)) (ma_cons (me_tup (ma_cons me_str (ma_cons me_int (ma_cons me_int (ma_cons (me_tup (ma_cons me_int (ma_cons me_int (ma_cons me_int (ma_cons me_int ma_nil)))) (fun r M ds M' h => Nat.le_trans ((ln_cons (ln_cons (ln_cons (ln_cons ln_nil)))) r M ds M' h) (by decide))) ma_nil)))) (fun r M ds M' h => Nat.le_trans ((ln_cons (ln_cons (ln_cons (ln_cons ln_nil)))) r M ds M' h) (by decide))) (ma_cons (me_tup (ma_cons (me_tup (ma_cons me_int (ma_cons me_int ma_nil)) (fun r M ds M' h => Nat.le_trans ((ln_cons (ln_cons ln_nil)) r M ds M' h) (by decide))) (ma_cons (me_tup (ma_cons me_int (ma_cons me_int ma_nil)) (fun r M ds M' h => Nat.le_trans ((ln_cons (ln_cons ln_nil)) r M ds M' h) (by decide))) (ma_cons (me_tup (ma_cons me_int (ma_cons me_int ma_nil)) (fun r M ds M' h => Nat.le_trans ((ln_cons (ln_cons ln_nil)) r M ds M' h) (by decide))) (ma_cons (me_tup (ma_cons me_int (ma_cons me_int ma_nil)) (fun r M ds M' h => Nat.le_trans ((ln_cons (ln_cons ln_nil)) r M ds M' h) (by decide))) ma_nil)))) (fun r M ds M' h => Nat.le_trans ((ln_cons (ln_cons (ln_cons (ln_cons ln_nil)))) r M ds M' h) (by decide))) ma_nil)))) (fun r M ds M' h => Nat.le_trans ((ln_cons (ln_cons (ln_cons (ln_cons ln_nil)))) r M ds M' h) (by decide))) ma_nil)) (fun r M ds M' h => Nat.le_trans ((ln_cons (ln_cons ln_nil)) r M ds M' h) (by decide)))) (mg_name (i := 8) nd rfl (Or.inl rfl)))
    (mss_cons (ms_if (mp_cmp (op_neA hr.units) s_ne (me_lc (own := [("_law_named", 3), ("_law_company_here", 4), ("_law_deed_here", 5), ("_law_due", 9)]) (fun _ _ _ h => mt_lcL h) rfl nd (pi_list (me_var (i := 8))) (blkOk_by (N := n_Law) (sc := defScope s_Law) (by decide +kernel)) (fun _ _ _ _ _ => mw_tup rfl (mws_cons (mw_name (i := 3) (by decide) nd rfl (Or.inl rfl)) (mws_cons (mw_name (i := 4) (by decide) nd rfl (Or.inl rfl)) (mws_cons (mw_name (i := 5) (by decide) nd rfl (Or.inl rfl)) (mws_cons (mw_name (i := 9) (by decide) nd rfl (Or.inl rfl)) mws_nil))))) (fun _ _ _ _ _ => (mts_one (mp_cmp (op_neA hr.units) s_ne (me_call C.p_done hr (by rfl) T.g_p_done T.F_p_done.kp T.b_p_done pass0 (ma_cons (me_var (i := 3)) (ma_cons (me_var (i := 4)) (ma_cons (me_tup (ma_cons (me_var (i := 5)) ma_nil) (fun r M ds M' h => Nat.le_trans ((ln_cons ln_nil) r M ds M' h) (by decide))) ma_nil))) (ll_cons (ll_cons (ll_cons ll_nil)))) (me_tup (ma_cons me_int (ma_cons (me_var (i := 9)) ma_nil)) (fun r M ds M' h => Nat.le_trans ((ln_cons (ln_cons ln_nil)) r M ds M' h) (by decide))) (nomark _)))) (fun _ _ _ _ _ => me_int)) (me_lst ma_nil (fun r M ds M' h => Nat.le_trans (ln_nil r M ds M' h) (by decide))) (nomark _)) (mss_one (ms_ret me_bl)) mss_nil)
    (mss_cons (ms_if (mw_or (mp_cmp (op_neA hr.units) s_ne (me_call C.p_done hr (by rfl) T.g_p_done T.F_p_done.kp T.b_p_done pass0 (ma_cons me_int (ma_cons (me_tup (ma_cons me_int (ma_cons (me_tup ma_nil (fun r M ds M' h => Nat.le_trans (ln_nil r M ds M' h) (by decide))) ma_nil)) (fun r M ds M' h => Nat.le_trans ((ln_cons (ln_cons ln_nil)) r M ds M' h) (by decide))) (ma_cons (me_tup (ma_cons (me_tup (ma_cons me_str (ma_cons me_int (ma_cons (me_op op_mulA s_mul (me_tup (ma_cons me_int ma_nil) (fun r M ds M' h => Nat.le_trans ((ln_cons ln_nil) r M ds M' h) (by decide))) me_int) ma_nil))) (fun r M ds M' h => Nat.le_trans ((ln_cons (ln_cons (ln_cons ln_nil))) r M ds M' h) (by decide))) ma_nil) (fun r M ds M' h => Nat.le_trans ((ln_cons ln_nil) r M ds M' h) (by decide))) ma_nil))) (ll_cons (ll_cons (ll_cons ll_nil)))) (me_tup (ma_cons me_int (ma_cons (me_tup ma_nil (fun r M ds M' h => Nat.le_trans (ln_nil r M ds M' h) (by decide))) ma_nil)) (fun r M ds M' h => Nat.le_trans ((ln_cons (ln_cons ln_nil)) r M ds M' h) (by decide))) (nomark _)) (mw_or1 (mp_cmp (op_neA hr.units) s_ne (me_call C.p_done hr (by rfl) T.g_p_done T.F_p_done.kp T.b_p_done pass0 (ma_cons me_int (ma_cons (me_tup (ma_cons me_int (ma_cons (me_tup ma_nil (fun r M ds M' h => Nat.le_trans (ln_nil r M ds M' h) (by decide))) ma_nil)) (fun r M ds M' h => Nat.le_trans ((ln_cons (ln_cons ln_nil)) r M ds M' h) (by decide))) (ma_cons (me_tup (ma_cons (me_tup (ma_cons me_str (ma_cons me_int (ma_cons (me_op op_mulA s_mul (me_tup (ma_cons me_int ma_nil) (fun r M ds M' h => Nat.le_trans ((ln_cons ln_nil) r M ds M' h) (by decide))) me_int) ma_nil))) (fun r M ds M' h => Nat.le_trans ((ln_cons (ln_cons (ln_cons ln_nil))) r M ds M' h) (by decide))) ma_nil) (fun r M ds M' h => Nat.le_trans ((ln_cons ln_nil) r M ds M' h) (by decide))) ma_nil))) (ll_cons (ll_cons (ll_cons ll_nil)))) (me_tup (ma_cons me_int (ma_cons (me_tup ma_nil (fun r M ds M' h => Nat.le_trans (ln_nil r M ds M' h) (by decide))) ma_nil)) (fun r M ds M' h => Nat.le_trans ((ln_cons (ln_cons ln_nil)) r M ds M' h) (by decide))) (nomark _)))).pt (mss_one (ms_ret me_bl)) mss_nil)
    (mss_cons (ms_if (mw_or (mp_cmp (op_neA hr.units) s_ne (me_call C.p_done hr (by rfl) T.g_p_done T.F_p_done.kp T.b_p_done pass0 (ma_cons me_int (ma_cons (me_tup (ma_cons me_int (ma_cons (me_tup ma_nil (fun r M ds M' h => Nat.le_trans (ln_nil r M ds M' h) (by decide))) ma_nil)) (fun r M ds M' h => Nat.le_trans ((ln_cons (ln_cons ln_nil)) r M ds M' h) (by decide))) (ma_cons (me_tup (ma_cons (me_tup (ma_cons me_str (ma_cons me_int (ma_cons me_int (ma_cons (me_op op_mulA s_mul (me_tup (ma_cons me_int ma_nil) (fun r M ds M' h => Nat.le_trans ((ln_cons ln_nil) r M ds M' h) (by decide))) me_int) ma_nil)))) (fun r M ds M' h => Nat.le_trans ((ln_cons (ln_cons (ln_cons (ln_cons ln_nil)))) r M ds M' h) (by decide))) ma_nil) (fun r M ds M' h => Nat.le_trans ((ln_cons ln_nil) r M ds M' h) (by decide))) ma_nil))) (ll_cons (ll_cons (ll_cons ll_nil)))) (me_tup (ma_cons me_int (ma_cons (me_tup ma_nil (fun r M ds M' h => Nat.le_trans (ln_nil r M ds M' h) (by decide))) ma_nil)) (fun r M ds M' h => Nat.le_trans ((ln_cons (ln_cons ln_nil)) r M ds M' h) (by decide))) (nomark _)) (mw_or1 (mp_cmp (op_neA hr.units) s_ne (me_call C.p_done hr (by rfl) T.g_p_done T.F_p_done.kp T.b_p_done pass0 (ma_cons me_int (ma_cons (me_tup (ma_cons me_int (ma_cons (me_tup ma_nil (fun r M ds M' h => Nat.le_trans (ln_nil r M ds M' h) (by decide))) ma_nil)) (fun r M ds M' h => Nat.le_trans ((ln_cons (ln_cons ln_nil)) r M ds M' h) (by decide))) (ma_cons (me_tup (ma_cons (me_tup (ma_cons me_str (ma_cons me_int (ma_cons (me_op op_mulA s_mul (me_tup (ma_cons me_int ma_nil) (fun r M ds M' h => Nat.le_trans ((ln_cons ln_nil) r M ds M' h) (by decide))) me_int) ma_nil))) (fun r M ds M' h => Nat.le_trans ((ln_cons (ln_cons (ln_cons ln_nil))) r M ds M' h) (by decide))) ma_nil) (fun r M ds M' h => Nat.le_trans ((ln_cons ln_nil) r M ds M' h) (by decide))) ma_nil))) (ll_cons (ll_cons (ll_cons ll_nil)))) (me_tup (ma_cons me_int (ma_cons (me_tup (ma_cons (me_tup (ma_cons me_int (ma_cons me_int ma_nil)) (fun r M ds M' h => Nat.le_trans ((ln_cons (ln_cons ln_nil)) r M ds M' h) (by decide))) ma_nil) (fun r M ds M' h => Nat.le_trans ((ln_cons ln_nil) r M ds M' h) (by decide))) ma_nil)) (fun r M ds M' h => Nat.le_trans ((ln_cons (ln_cons ln_nil)) r M ds M' h) (by decide))) (nomark _)))).pt (mss_one (ms_ret me_bl)) mss_nil)
    (mss_one (ms_ret (me_cmp (op_eqA hr.units) s_eq (me_call C.p_done hr (by rfl) T.g_p_done T.F_p_done.kp T.b_p_done pass0 (ma_cons me_int (ma_cons (me_tup (ma_cons me_int (ma_cons (me_tup (ma_cons (me_tup (ma_cons me_int (ma_cons me_int ma_nil)) (fun r M ds M' h => Nat.le_trans ((ln_cons (ln_cons ln_nil)) r M ds M' h) (by decide))) (ma_cons (me_tup (ma_cons me_int (ma_cons me_int ma_nil)) (fun r M ds M' h => Nat.le_trans ((ln_cons (ln_cons ln_nil)) r M ds M' h) (by decide))) ma_nil)) (fun r M ds M' h => Nat.le_trans ((ln_cons (ln_cons ln_nil)) r M ds M' h) (by decide))) ma_nil)) (fun r M ds M' h => Nat.le_trans ((ln_cons (ln_cons ln_nil)) r M ds M' h) (by decide))) (ma_cons (me_tup (ma_cons (me_tup (ma_cons me_str (ma_cons me_int (ma_cons (me_tup (ma_cons me_int (ma_cons me_int (ma_cons me_int (ma_cons me_int (ma_cons me_int (ma_cons me_int ma_nil)))))) (fun r M ds M' h => Nat.le_trans ((ln_cons (ln_cons (ln_cons (ln_cons (ln_cons (ln_cons ln_nil)))))) r M ds M' h) (by decide))) ma_nil))) (fun r M ds M' h => Nat.le_trans ((ln_cons (ln_cons (ln_cons ln_nil))) r M ds M' h) (by decide))) ma_nil) (fun r M ds M' h => Nat.le_trans ((ln_cons ln_nil) r M ds M' h) (by decide))) ma_nil))) (ll_cons (ll_cons (ll_cons ll_nil)))) (me_tup (ma_cons me_int (ma_cons (me_tup (ma_cons (me_tup (ma_cons me_int (ma_cons me_int ma_nil)) (fun r M ds M' h => Nat.le_trans ((ln_cons (ln_cons ln_nil)) r M ds M' h) (by decide))) (ma_cons (me_tup (ma_cons me_int (ma_cons me_int ma_nil)) (fun r M ds M' h => Nat.le_trans ((ln_cons (ln_cons ln_nil)) r M ds M' h) (by decide))) (ma_cons (me_tup (ma_cons me_int (ma_cons me_int ma_nil)) (fun r M ds M' h => Nat.le_trans ((ln_cons (ln_cons ln_nil)) r M ds M' h) (by decide))) (ma_cons (me_tup (ma_cons me_int (ma_cons me_int ma_nil)) (fun r M ds M' h => Nat.le_trans ((ln_cons (ln_cons ln_nil)) r M ds M' h) (by decide))) ma_nil)))) (fun r M ds M' h => Nat.le_trans ((ln_cons (ln_cons (ln_cons (ln_cons ln_nil)))) r M ds M' h) (by decide))) ma_nil)) (fun r M ds M' h => Nat.le_trans ((ln_cons (ln_cons ln_nil)) r M ds M' h) (by decide))) (nomark _))))))))))))))))
theorem law_ok (T : Tx K mg) (gx : Gx tb base T) (k : Nat) : FnOk P w K mg base CX0 (k + 2) T.a_Law T.d_Law ["_law_script"] (spM tb K 1 (gLaw T.a_Bundle (k + 1))) :=
  ok_Law T gx ⟨all_ok T gx (k + 1), ok_Lcup T gx k⟩
end
end MT

namespace MT
class HasC where
  c : PySem.Addr
open PySem PySem.Spec PyProof.Rows L2 NL
variable [HasC]
def isI : D → Bool
  | .int _ => true
  | _ => false
def btw (d : D) (lo hi : Int) : Bool := match d with
  | .int i => decide (lo ≤ i) && decide (i ≤ hi)
  | _ => false
theorem g_is_integer (n : Nat) (d : D) (M : MM) (ht : tyd d = true) : G HasC.c (n + 1) .p_is_integer [d] M = some (.bl (isI d), M) := by
  cases d <;> first | rfl | cases ht
theorem g_is_between (n : Nat) (d : D) (lo hi : Int) (M : MM) (ht : tyd d = true) : G HasC.c (n + 2) .p_is_between [d, .int lo, .int hi] M = some (.bl (btw d lo hi), M) := by
  show mFun 3 (B_p_is_between (G HasC.c (n + 1))) [d, .int lo, .int hi] M = _
  cases d with
  | int i =>
    by_cases h1 : lo ≤ i <;> by_cases h2 : i ≤ hi <;> simp [mFun, mSeq, mRet, mDrop, mIfS, mNever, mSkip, mSet, mAsg, mPar2, mPar3, tgName, tgTup, tgCons, tgNil, mVar, mC, mNil, mCons, mTup, mLst, mOp, mUn, mB, mAnd, mOr, mNot, mIf, mChain, mFn, mCall, mIs, mFor, itemsT, itemsL, mYes, mPart, mNo, mSl, startD, tyd, oCmp, oI, oLt, oLtX, oLe, oGt, oGe, oSub, oLen, oIx, isT, B_p_is_between, g_is_integer n (.int i) M rfl, isI, btw, h1, h2]
  | _ => first | rfl | cases ht
def tupN (d : D) (k : Nat) : Bool := match d with
  | .tup xs => xs.length == k
  | _ => false
theorem g_is_tuple_of (n : Nat) (d : D) (k : Nat) (M : MM) (ht : tyd d = true) (hc : ∀ xs, d ≠ .ct xs) : G HasC.c (n + 1) .p_is_tuple_of [d, .int k] M = some (.bl (tupN d k), M) := by
  show mFun 2 (B_p_is_tuple_of (G HasC.c n)) [d, .int k] M = _
  cases d with
  | tup xs =>
    simp [mFun, mSeq, mRet, mDrop, mIfS, mNever, mSkip, mSet, mAsg, mPar2, mPar3, tgName, tgTup, tgCons, tgNil, mVar, mC, mNil, mCons, mTup, mLst, mOp, mUn, mB, mAnd, mOr, mNot, mIf, mChain, mFn, mCall, mIs, mFor, itemsT, itemsL, mYes, mPart, mNo, mSl, startD, tyd, oCmp, oI, oLt, oLtX, oLe, oGt, oGe, oSub, oLen, oIx, isT, B_p_is_tuple_of, oEq, tupN]
    rw [Bool.eq_iff_iff]
    simp
    omega
  | ct xs => first | rfl | exact absurd rfl (hc xs)
  | _ => first | rfl | cases ht
end MT

namespace MT
open PySem PySem.Spec PyProof.Rows L2 NL
variable [HasC]
/-! ### data that is not too deep, nor too long -/
def good : Nat → D → Bool
  | _, .non => true
  | _, .bl _ => true
  | _, .int _ => true
  | _, .str x => PyData.canLay0 (.str x)
  | n + 1, .tup xs => decide (xs.length ≤ 1000) && xs.all (good n)
  | n + 1, .lst xs => decide (xs.length ≤ 1000) && xs.all (good n)
  | _, _ => false
theorem good_mono : ∀ {n m : Nat} {d : D}, good n d = true → n ≤ m → good m d = true
  | n, m, .non, _, _ => by cases m <;> rfl
  | n, m, .bl _, _, _ => by cases m <;> rfl
  | n, m, .int _, _, _ => by cases m <;> rfl
  | n, m, .str x, h, _ => by cases n <;> cases m <;> exact h
  | 0, m, .tup xs, h, _ => by cases h
  | n + 1, 0, .tup xs, h, hl => by omega
  | n + 1, m + 1, .tup xs, h, hl => by
    simp only [good, Bool.and_eq_true, List.all_eq_true] at h ⊢
    exact ⟨h.1, fun x hx => good_mono (h.2 x hx) (by omega)⟩
  | 0, m, .lst xs, h, _ => by cases h
  | n + 1, 0, .lst xs, h, hl => by omega
  | n + 1, m + 1, .lst xs, h, hl => by
    simp only [good, Bool.and_eq_true, List.all_eq_true] at h ⊢
    exact ⟨h.1, fun x hx => good_mono (h.2 x hx) (by omega)⟩
  | n, m, .mu _, h, _ => by cases n <;> cases h
  | n, m, .fz _, h, _ => by cases n <;> cases h
  | n, m, .ct _, h, _ => by cases n <;> cases h
  | n, m, .dk _ _, h, _ => by cases n <;> cases h
  | n, m, .dt _ _, h, _ => by cases n <;> cases h
  | n, m, .ins _ _ _, h, _ => by cases n <;> cases h
theorem pys_ok {n : Nat} : ∀ {xs : List D}, (∀ x ∈ xs, pure x = true ∧ (py x).canLay0 = true ∧ (py x).depth ≤ n) → pures xs = true ∧ PyData.canLayAll0 (pys xs) = true ∧ PyData.depthAll (pys xs) ≤ n
  | [], _ => ⟨rfl, by simp [pys, PyData.canLayAll0], by simp [pys, PyData.depthAll]⟩
  | x :: xs, h => by
    obtain ⟨a, b, c⟩ := h x List.mem_cons_self
    obtain ⟨d, e, f⟩ := pys_ok fun y hy => h y (List.mem_cons_of_mem _ hy)
    refine ⟨by simp [pures, a, d], by simp [pys, PyData.canLayAll0, b, e], ?_⟩
    simp only [pys, PyData.depthAll]
    omega
theorem good_ok : ∀ {n : Nat} {d : D}, good n d = true → pure d = true ∧ (py d).canLay0 = true ∧ (py d).depth ≤ n
  | n, .non, _ => ⟨rfl, by simp [py, PyData.canLay0], by simp [py, PyData.depth]⟩
  | n, .bl _, _ => ⟨rfl, by simp [py, PyData.canLay0], by simp [py, PyData.depth]⟩
  | n, .int _, _ => ⟨rfl, by simp [py, PyData.canLay0], by simp [py, PyData.depth]⟩
  | n, .str x, h => ⟨rfl, by cases n <;> exact h, by simp [py, PyData.depth]⟩
  | 0, .tup xs, h => by cases h
  | n + 1, .tup xs, h => by
    simp only [good, Bool.and_eq_true, List.all_eq_true] at h
    obtain ⟨a, b, c⟩ := pys_ok fun x hx => good_ok (h.2 x hx)
    exact ⟨a, by simpa [py, PyData.canLay0] using b, by simp only [py, PyData.depth]; omega⟩
  | 0, .lst xs, h => by cases h
  | n + 1, .lst xs, h => by
    simp only [good, Bool.and_eq_true, List.all_eq_true] at h
    obtain ⟨a, b, c⟩ := pys_ok fun x hx => good_ok (h.2 x hx)
    exact ⟨a, by simpa [py, PyData.canLay0] using b, by simp only [py, PyData.depth]; omega⟩
  | n, .mu _, h => by cases n <;> cases h
  | n, .fz _, h => by cases n <;> cases h
  | n, .ct _, h => by cases n <;> cases h
  | n, .dk _ _, h => by cases n <;> cases h
  | n, .dt _ _, h => by cases n <;> cases h
  | n, .ins _ _ _, h => by cases n <;> cases h
theorem okD_of {n : Nat} {d : D} (h : good n d = true) (hn : n ≤ 64) : okD d = true := by
  obtain ⟨a, b, c⟩ := good_ok h
  unfold okD SeqAt.shaped
  rw [a, b, decide_eq_true (by omega)]
  rfl
theorem good_ty {n : Nat} {d : D} (h : good n d = true) : tyd d = true := by
  cases d <;> first | rfl | (cases n <;> cases h)
theorem good_ct {n : Nat} {d : D} (h : good n d = true) : ∀ xs, d ≠ .ct xs := fun xs e => by
  subst e
  cases n <;> cases h
theorem good_tup {n : Nat} {xs : List D} (h : good n (.tup xs) = true) : ∃ k, n = k + 1 ∧ xs.length ≤ 1000 ∧ ∀ x ∈ xs, good k x = true := by
  cases n with
  | zero => cases h
  | succ k =>
    simp only [good, Bool.and_eq_true, List.all_eq_true, decide_eq_true_eq] at h
    exact ⟨k, rfl, h.1, h.2⟩
/-! ### comprehensions whose parts change nothing -/
theorem lcD_filter {tg : FT} {t : FB} {e : FE} {r : En} {M : MM} (p : D → Bool) (f : D → D) : ∀ {xs : List D}, (∀ d ∈ xs, ∃ r1, tg d r = some r1 ∧ t r1 M = some (p d, M) ∧ (p d = true → e r1 M = some (f d, M))) → lcD tg t e r xs M = some ((xs.filter p).map f, M)
  | [], _ => rfl
  | x :: xs, h => by
    obtain ⟨r1, h1, h2, h3⟩ := h x List.mem_cons_self
    have ih := lcD_filter p f (xs := xs) fun d hd => h d (List.mem_cons_of_mem _ hd)
    unfold lcD
    rw [h1]
    simp only []
    rw [h2]
    cases hp : p x with
    | true =>
      simp only []
      rw [h3 hp]
      simp only []
      rw [ih]
      simp [List.filter_cons, hp]
    | false =>
      simp only []
      rw [ih]
      simp [List.filter_cons, hp]
theorem lcD_map {tg : FT} {e : FE} {r : En} {M : MM} (f : D → D) {xs : List D} (h : ∀ d ∈ xs, ∃ r1, tg d r = some r1 ∧ e r1 M = some (f d, M)) : lcD tg mYes e r xs M = some (xs.map f, M) := by
  rw [lcD_filter (fun _ => true) f fun d hd => by
    obtain ⟨r1, h1, h2⟩ := h d hd
    exact ⟨r1, h1, rfl, fun _ => h2⟩]
  rw [List.filter_eq_self.mpr fun _ _ => rfl]
theorem boolsOf_map (p : D → Bool) : ∀ xs : List D, boolsOf (xs.map fun d => .bl (p d)) = some (xs.map p)
  | [] => rfl
  | x :: xs => by
    show (match boolsOf (xs.map fun d => .bl (p d)) with | some bs => some (p x :: bs) | none => none) = _
    rw [boolsOf_map p xs]
    rfl
/-! ### == of data of ints -/
mutual
def jd : D → Bool
  | .int _ => true
  | .tup xs => jds xs
  | .lst xs => jds xs
  | _ => false
def jds : List D → Bool
  | [] => true
  | d :: ds => jd d && jds ds
end
mutual
theorem eqv_j : ∀ {d e : D}, jd d = true → jd e = true → (oEqv d e = true ↔ d = e)
  | .int i, .int j, _, _ => by
    show ((i == j) = true ↔ _)
    rw [beq_iff_eq]
    exact ⟨fun h => by rw [h], fun h => by injection h⟩
  | .int i, .tup ys, _, _ => ⟨fun h => (by cases h), fun h => (by cases h)⟩
  | .int i, .lst ys, _, _ => ⟨fun h => (by cases h), fun h => (by cases h)⟩
  | .tup xs, .int j, _, _ => ⟨fun h => (by cases h), fun h => (by cases h)⟩
  | .tup xs, .lst ys, _, _ => ⟨fun h => (by cases h), fun h => (by cases h)⟩
  | .lst xs, .int j, _, _ => ⟨fun h => (by cases h), fun h => (by cases h)⟩
  | .lst xs, .tup ys, _, _ => ⟨fun h => (by cases h), fun h => (by cases h)⟩
  | .tup xs, .tup ys, h1, h2 => by
    show (PyData.eqvAll (pys xs) (pys ys) = true ↔ _)
    rw [eqv_js h1 h2]
    exact ⟨fun h => by rw [h], fun h => by injection h⟩
  | .lst xs, .lst ys, h1, h2 => by
    show (PyData.eqvAll (pys xs) (pys ys) = true ↔ _)
    rw [eqv_js h1 h2]
    exact ⟨fun h => by rw [h], fun h => by injection h⟩
theorem eqv_js : ∀ {xs ys : List D}, jds xs = true → jds ys = true → (PyData.eqvAll (pys xs) (pys ys) = true ↔ xs = ys)
  | [], [], _, _ => ⟨fun _ => rfl, fun _ => rfl⟩
  | [], y :: ys, _, _ => ⟨fun h => (by cases h), fun h => (by cases h)⟩
  | x :: xs, [], _, _ => ⟨fun h => (by cases h), fun h => (by cases h)⟩
  | x :: xs, y :: ys, h1, h2 => by
    obtain ⟨a1, a2⟩ := Bool.and_eq_true_iff.mp h1
    obtain ⟨b1, b2⟩ := Bool.and_eq_true_iff.mp h2
    show ((PyData.eqv (py x) (py y) && PyData.eqvAll (pys xs) (pys ys)) = true ↔ _)
    rw [Bool.and_eq_true_iff, eqv_js a2 b2]
    have := eqv_j a1 b1
    unfold oEqv at this
    rw [this]
    exact ⟨fun h => by rw [h.1, h.2], fun h => List.cons.inj h⟩
end
theorem jds_map {α : Type} {f : α → D} (h : ∀ a, jd (f a) = true) : ∀ xs : List α, jds (xs.map f) = true
  | [] => rfl
  | x :: xs => by
    show (jd (f x) && jds (xs.map f)) = true
    rw [h, jds_map h xs]
    rfl
theorem oEq_j {d e : D} {M : MM} {n m : Nat} (h1 : jd d = true) (h2 : jd e = true) (g1 : good n d = true) (g2 : good m e = true) (hn : n ≤ 64) (hm : m ≤ 64) : ∃ b, oEq M d e = some (.bl b) ∧ (b = true ↔ d = e) := by
  have o1 := okD_of g1 hn
  have o2 := okD_of g2 hm
  have := eqv_j h1 h2
  cases d with
  | int i =>
    cases e with
    | int j => exact ⟨i == j, rfl, this⟩
    | tup ys => exact ⟨oEqv (.int i) (.tup ys), by simp only [oEq, o1, o2, Bool.and_self, if_true], this⟩
    | lst ys => exact ⟨oEqv (.int i) (.lst ys), by simp only [oEq, o1, o2, Bool.and_self, if_true], this⟩
    | _ => cases h2
  | tup xs => exact ⟨oEqv (.tup xs) e, by simp only [oEq, o1, o2, Bool.and_self, if_true], this⟩
  | lst xs => exact ⟨oEqv (.lst xs) e, by simp only [oEq, o1, o2, Bool.and_self, if_true], this⟩
  | _ => cases h1
end MT

namespace MT
open PySem PySem.Spec PyProof.Rows L2 NL
variable [HasC]
theorem at0 {α : Type} (x : α) (xs : List α) : atI (x :: xs) 0 = some x := atI_nat (j := 0) rfl
theorem at1 {α : Type} (x y : α) (xs : List α) : atI (x :: y :: xs) 1 = some y := atI_nat (j := 1) rfl
theorem at2 {α : Type} (x y z : α) (xs : List α) : atI (x :: y :: z :: xs) 2 = some z := atI_nat (j := 2) rfl
def namedB (i : Int) : Prop := 1 ≤ i ∧ i ≤ 3
/-! ### what is rolled -/
def Cup (R M : MM) : Prop := ∃ a b : Int, M = .lst [.int a, .int b] :: R ∧ 0 ≤ a ∧ 0 ≤ b ∧ b < 1099511627776
theorem g_roll (n : Nat) {R M : MM} (h : Cup R M) (k : Int) (h1 : 1 ≤ k) (h2 : k < 1000000) : ∃ r M', G HasC.c (n + 1) .Lroll [.mu 0, .int k] M = some (.int r, M') ∧ 0 ≤ r ∧ r < k ∧ Cup R M' := by
  obtain ⟨a, b, rfl, ha, hb, hb2⟩ := h
  have e0 : atI [D.int a, D.int b] 0 = some (.int a) := at0 _ _
  have k0 : (0 : Int) < k := by omega
  have k1 : k < 1073741824 := by omega
  by_cases h : 0 < a
  · refine ⟨a % k, .lst [.int (a / k), .int b] :: R, ?_, Int.emod_nonneg _ (by omega), Int.emod_lt_of_pos _ k0, _, _, rfl, Int.ediv_nonneg ha (by omega), hb, hb2⟩
    show mFun 4 (B_Lroll (G HasC.c n)) [.mu 0, .int k] (.lst [.int a, .int b] :: R) = _
    simp [mFun, mSeq, mRet, mDrop, mIfS, mNever, mSkip, mSet, mAsg, mPar2, mPar3, tgName, tgTup, tgCons, tgNil, mVar, mC, mNil, mCons, mTup, mLst, mOp, mUn, mB, mAnd, mOr, mNot, mIf, mChain, mFn, mCall, mIs, mFor, itemsT, itemsL, mYes, mPart, mNo, mSl, startD, tyd, oCmp, oI, oLt, oLtX, oLe, oGt, oGe, oSub, oLen, oIx, isT, B_Lroll, e0, h, oMod, oInt, k0, k1, oDiv, mStore, ixN]
  · let b' := (b * 30983 + 7933) % 2147483563
    have hb0 : 0 ≤ b' := Int.emod_nonneg _ (by decide)
    have hb1 : b' < 2147483563 := Int.emod_lt_of_pos _ (by decide)
    refine ⟨(b' * (b' + 197) % 2147483587 / 773) % k, .lst [.int a, .int b'] :: R, ?_, Int.emod_nonneg _ (by omega), Int.emod_lt_of_pos _ k0, _, _, rfl, ha, hb0, by omega⟩
    show mFun 4 (B_Lroll (G HasC.c n)) [.mu 0, .int k] (.lst [.int a, .int b] :: R) = _
    have e1 : atI [D.int a, D.int b] 1 = some (.int b) := at1 _ _ _
    have e2 : atI [D.int a, D.int b'] 1 = some (.int b') := at1 _ _ _
    have m1 : b'.natAbs < 18446744073709551616 := by omega
    have eb : (b * 30983 + 7933) % 2147483563 = b' := rfl
    simp only [mFun, B_Lroll, mSeq, mIfS, mB, mOp, mVar, mC, mSkip, mStore, mFn, mCons, mNil, mAsg, tgName, mRet, startD, List.map_cons, List.map_nil, List.length_cons, List.length_nil, Nat.zero_add, Nat.reduceSub, Nat.reduceAdd, List.replicate_succ, List.replicate_zero, List.cons_append, List.nil_append,
      List.getElem?_cons_zero, List.getElem?_cons_succ, List.set_cons_zero, List.set_cons_succ, oIx, Option.bind_some, e0, e1, oGt, oCmp, oI, decide_eq_false h, oInt, oAdd, oMul, oMod, eb]
    rw [if_pos (show b.natAbs < 18446744073709551616 ∨ (30983 : Int).natAbs < 18446744073709551616 from Or.inr (by decide))]
    simp only [eb, if_true, show ((0 : Int) < 2147483563) = True from eq_true (by decide)]
    have ix : ixN [D.int a, D.int b].length 1 = some 1 := rfl
    simp only [ix, List.set_cons_succ, List.set_cons_zero, List.getElem?_cons_zero, Option.bind_some, e2, eb]
    rw [if_pos (Or.inl m1)]
    simp only [if_true, show ((0 : Int) < 2147483587) = True from eq_true (by decide), oDiv, oI, List.getElem?_cons_zero, List.getElem?_cons_succ]
    rw [if_pos (show (0 : Int) < 773 ∧ (773 : Int) < 1073741824 by decide)]
    simp only [k0, if_true]
theorem cup_roll (n : Nat) {R M : MM} (h : Cup R M) (k : Nat) (h1 : 1 ≤ k) (h2 : k < 1000000) : ∃ (r : Nat) (M' : MM), G HasC.c (n + 1) .Lroll [.mu 0, .int k] M = some (.int r, M') ∧ r < k ∧ Cup R M' := by
  obtain ⟨r, M', e, r0, r1, c⟩ := g_roll n h k (by omega) (by omega)
  refine ⟨r.toNat, M', ?_, by omega, c⟩
  rw [e, Int.toNat_of_nonneg r0]
theorem cup_some (n : Nat) {R M : MM} (h : Cup R M) (xs : List D) (h1 : xs ≠ []) (h2 : xs.length < 1000000) : ∃ d M', G HasC.c (n + 2) .Lsome [.mu 0, .lst xs] M = some (d, M') ∧ d ∈ xs ∧ Cup R M' := by
  have hl : 1 ≤ xs.length := by
    cases xs with
    | nil => exact absurd rfl h1
    | cons x xs => simp
  obtain ⟨r, M', e, r1, c⟩ := cup_roll n h xs.length hl h2
  refine ⟨xs[r], M', ?_, List.getElem_mem r1, c⟩
  show mFun 2 (B_Lsome (G HasC.c (n + 1))) [.mu 0, .lst xs] M = _
  have e1 : atI xs (r : Int) = some xs[r] := atI_nat (List.getElem?_eq_getElem r1)
  simp [mFun, mSeq, mRet, mDrop, mIfS, mNever, mSkip, mSet, mAsg, mPar2, mPar3, tgName, tgTup, tgCons, tgNil, mVar, mC, mNil, mCons, mTup, mLst, mOp, mUn, mB, mAnd, mOr, mNot, mIf, mChain, mFn, mCall, mIs, mFor, itemsT, itemsL, mYes, mPart, mNo, mSl, startD, tyd, oCmp, oI, oLt, oLtX, oLe, oGt, oGe, oSub, oLen, oIx, isT, B_Lsome, e, e1]
end MT

namespace MT
open PySem PySem.Spec PyProof.Rows L2 NL
variable [HasC]
/-! ### pairs -/
def prB (n : Int) : D → Bool
  | .tup [a, b] => match a with
    | .int i => btw (.int i) 0 (n - 1) && btw b (i + 1) (n - 1)
    | _ => false
  | _ => false
theorem g_is_pair_of {k : Nat} (n : Nat) (m : Int) (d : D) (M : MM) (hg : good k d = true) : G HasC.c (n + 3) .p_is_pair_of [.int m, d] M = some (.bl (prB m d), M) := by
  show mFun 4 (B_p_is_pair_of (G HasC.c (n + 2))) [.int m, d] M = _
  have t2 : G HasC.c (n + 2) .p_is_tuple_of [d, .int 2] M = some (.bl (tupN d 2), M) := g_is_tuple_of (n + 1) d 2 M (good_ty hg) (good_ct hg)
  cases d with
  | tup xs =>
    obtain ⟨j, hj, hl, hx⟩ := good_tup hg
    match xs, hx with
    | [], _ => simp [mFun, mSeq, mRet, mDrop, mIfS, mNever, mSkip, mSet, mAsg, mPar2, mPar3, tgName, tgTup, tgCons, tgNil, mVar, mC, mNil, mCons, mTup, mLst, mOp, mUn, mB, mAnd, mOr, mNot, mIf, mChain, mFn, mCall, mIs, mFor, itemsT, itemsL, mYes, mPart, mNo, mSl, startD, tyd, oCmp, oI, oLt, oLtX, oLe, oGt, oGe, oSub, oLen, oIx, isT, B_p_is_pair_of, t2, tupN, prB]
    | [x], _ => simp [mFun, mSeq, mRet, mDrop, mIfS, mNever, mSkip, mSet, mAsg, mPar2, mPar3, tgName, tgTup, tgCons, tgNil, mVar, mC, mNil, mCons, mTup, mLst, mOp, mUn, mB, mAnd, mOr, mNot, mIf, mChain, mFn, mCall, mIs, mFor, itemsT, itemsL, mYes, mPart, mNo, mSl, startD, tyd, oCmp, oI, oLt, oLtX, oLe, oGt, oGe, oSub, oLen, oIx, isT, B_p_is_pair_of, t2, tupN, prB]
    | [x, y], hx =>
      have b1 := g_is_between n x 0 (m - 1) M (good_ty (hx x (by simp)))
      have gy := good_ty (hx y (by simp))
      cases x with
      | int i =>
        have b2 := g_is_between n y (i + 1) (m - 1) M gy
        cases h : btw (.int i) 0 (m - 1) <;> simp [mFun, mSeq, mRet, mDrop, mIfS, mNever, mSkip, mSet, mAsg, mPar2, mPar3, tgName, tgTup, tgCons, tgNil, mVar, mC, mNil, mCons, mTup, mLst, mOp, mUn, mB, mAnd, mOr, mNot, mIf, mChain, mFn, mCall, mIs, mFor, itemsT, itemsL, mYes, mPart, mNo, mSl, startD, tyd, oCmp, oI, oLt, oLtX, oLe, oGt, oGe, oSub, oLen, oIx, isT, B_p_is_pair_of, t2, tupN, prB, b1, b2, h, oAdd]
      | _ =>
        simp only [btw] at b1
        simp [mFun, mSeq, mRet, mDrop, mIfS, mNever, mSkip, mSet, mAsg, mPar2, mPar3, tgName, tgTup, tgCons, tgNil, mVar, mC, mNil, mCons, mTup, mLst, mOp, mUn, mB, mAnd, mOr, mNot, mIf, mChain, mFn, mCall, mIs, mFor, itemsT, itemsL, mYes, mPart, mNo, mSl, startD, tyd, oCmp, oI, oLt, oLtX, oLe, oGt, oGe, oSub, oLen, oIx, isT, B_p_is_pair_of, t2, tupN, prB, b1]
    | x :: y :: z :: r, _ => simp [mFun, mSeq, mRet, mDrop, mIfS, mNever, mSkip, mSet, mAsg, mPar2, mPar3, tgName, tgTup, tgCons, tgNil, mVar, mC, mNil, mCons, mTup, mLst, mOp, mUn, mB, mAnd, mOr, mNot, mIf, mChain, mFn, mCall, mIs, mFor, itemsT, itemsL, mYes, mPart, mNo, mSl, startD, tyd, oCmp, oI, oLt, oLtX, oLe, oGt, oGe, oSub, oLen, oIx, isT, B_p_is_pair_of, t2, tupN, prB]
  | _ => simp [mFun, mSeq, mRet, mDrop, mIfS, mNever, mSkip, mSet, mAsg, mPar2, mPar3, tgName, tgTup, tgCons, tgNil, mVar, mC, mNil, mCons, mTup, mLst, mOp, mUn, mB, mAnd, mOr, mNot, mIf, mChain, mFn, mCall, mIs, mFor, itemsT, itemsL, mYes, mPart, mNo, mSl, startD, tyd, oCmp, oI, oLt, oLtX, oLe, oGt, oGe, oSub, oLen, oIx, isT, B_p_is_pair_of, t2, tupN, prB]
/-- pairs of n people -/
def okP (n : Int) (p : Int × Int) : Prop := 0 ≤ p.1 ∧ p.1 < p.2 ∧ p.2 < n
theorem prB_pD {n : Int} {p : Int × Int} : prB n (pD p) = true ↔ okP n p := by
  obtain ⟨i, j⟩ := p
  show (btw (.int i) 0 (n - 1) && btw (.int j) (i + 1) (n - 1)) = true ↔ _
  simp only [btw, Bool.and_eq_true, decide_eq_true_eq, okP]
  omega
theorem prB_is {n : Int} {d : D} (h : prB n d = true) : ∃ p, d = pD p ∧ okP n p := by
  unfold prB at h
  split at h
  · rename_i a b
    split at h
    · rename_i i
      cases b with
      | int j => exact ⟨(i, j), rfl, prB_pD.mp h⟩
      | _ => simp [btw] at h
    · cases h
  · cases h
theorem pairsOf_map : ∀ ps : List (Int × Int), pairsOf (ps.map pD) = some ps
  | [] => rfl
  | p :: ps => by
    show (match pairsOf (ps.map pD) with | some qs => some ((p.1, p.2) :: qs) | none => none) = _
    rw [pairsOf_map ps]
theorem prs_of {n : Int} : ∀ {xs : List D}, (∀ x ∈ xs, prB n x = true) → ∃ ps : List (Int × Int), xs = ps.map pD ∧ ∀ p ∈ ps, okP n p
  | [], _ => ⟨[], rfl, fun _ h => absurd h (by simp)⟩
  | x :: xs, h => by
    obtain ⟨p, e, hp⟩ := prB_is (h x List.mem_cons_self)
    obtain ⟨ps, e2, hps⟩ := prs_of fun y hy => h y (List.mem_cons_of_mem _ hy)
    refine ⟨p :: ps, by rw [e, e2]; rfl, fun q hq => ?_⟩
    rcases List.mem_cons.mp hq with z | z
    · rw [z]; exact hp
    · exact hps q z
theorem pD_inj {p q : Int × Int} (h : pD p = pD q) : p = q := by
  obtain ⟨a, b⟩ := p
  obtain ⟨c, d⟩ := q
  unfold pD at h
  injection h with h
  injection h with h1 h2
  injection h2 with h2 _
  injection h1 with h1
  injection h2 with h2
  exact Prod.ext h1 h2
theorem map_pD_inj : ∀ {ps qs : List (Int × Int)}, ps.map pD = qs.map pD → ps = qs
  | [], [], _ => rfl
  | [], _ :: _, h => by simp at h
  | _ :: _, [], h => by simp at h
  | p :: ps, q :: qs, h => by
    obtain ⟨h1, h2⟩ := List.cons.inj (show pD p :: ps.map pD = pD q :: qs.map pD from h)
    rw [pD_inj h1, map_pD_inj h2]
theorem jd_pD (p : Int × Int) : jd (pD p) = true := rfl
theorem good_pD (k : Nat) (p : Int × Int) : good (k + 1) (pD p) = true := by
  simp only [pD, good, List.length_cons, List.length_nil, List.all_cons, List.all_nil, Bool.and_true]
  cases k <;> rfl
theorem good_prs {ps : List (Int × Int)} (h : ps.length ≤ 1000) : good 2 (.tup (ps.map pD)) = true ∧ good 2 (.lst (ps.map pD)) = true := by
  simp only [good, Bool.and_eq_true, List.all_eq_true, decide_eq_true_eq, List.length_map]
  have : ∀ x ∈ ps.map pD, good 1 x = true := fun x hx => by
    obtain ⟨p, _, rfl⟩ := List.mem_map.mp hx
    exact good_pD 0 p
  exact ⟨⟨h, this⟩, h, this⟩
/-! ### in order -/
def ordB (ps : List (Int × Int)) : Bool := decide (ps = sortP ps)
theorem ordB_iff {ps : List (Int × Int)} : ordB ps = true ↔ ps.Pairwise ltP := by
  unfold ordB
  rw [decide_eq_true_iff]
  constructor
  · intro h
    rw [h]
    exact sorted_sortP ps
  · intro h
    exact (sorted_one (sorted_sortP ps) h fun x => mem_sortP).symm
def ltO : Option (Int × Int) → Option (Int × Int) → Bool
  | some p, some q => decide (ltP p q)
  | _, _ => false
def stepB (ps : List (Int × Int)) : D → Bool
  | .int i => ltO ps[i.toNat]? ps[i.toNat + 1]?
  | _ => false
theorem stepB_at {ps : List (Int × Int)} {k : Nat} (h : k + 1 < ps.length) : stepB ps (.int (0 + (k : Nat))) = decide (ltP ps[k] ps[k + 1]) := by
  have e : ((0 : Int) + (k : Nat)).toNat = k := by omega
  show ltO ps[((0 : Int) + (k : Nat)).toNat]? ps[((0 : Int) + (k : Nat)).toNat + 1]? = _
  rw [e, List.getElem?_eq_getElem (by omega), List.getElem?_eq_getElem h]
  rfl
theorem pairLt_ltP (p q : Int × Int) : HX.pairLt p.1 p.2 q.1 q.2 = decide (ltP p q) := by
  unfold HX.pairLt
  by_cases h : p.1 = q.1
  · rw [if_pos h]
    exact decide_eq_decide.mpr (by unfold ltP; omega)
  · rw [if_neg h]
    exact decide_eq_decide.mpr (by unfold ltP; omega)
theorem adj_all {ps : List (Int × Int)} (h : ∀ k (h : k + 1 < ps.length), ltP ps[k] ps[k + 1]) : ∀ d i (h : i + 1 + d < ps.length), ltP ps[i] ps[i + 1 + d]
  | 0, i, hi => h i hi
  | d + 1, i, hi => ltP_trans (adj_all h d i (by omega)) (h (i + 1 + d) hi)
theorem asc_iff {ps : List (Int × Int)} : ((rangeD 0 (ps.length - 1)).all (stepB ps)) = ordB ps := by
  rw [Bool.eq_iff_iff, ordB_iff, List.all_eq_true]
  constructor
  · intro h
    refine List.pairwise_iff_getElem.mpr fun i j hi hj hij => ?_
    have := adj_all (ps := ps) (fun k hk => by
      have := h (.int (0 + (k : Nat))) (List.mem_map.mpr ⟨k, List.mem_range.mpr (by omega), rfl⟩)
      rw [stepB_at hk] at this
      exact of_decide_eq_true this) (j - i - 1) i (by omega)
    have e : i + 1 + (j - i - 1) = j := by omega
    simp only [e] at this
    exact this
  · intro h x hx
    obtain ⟨k, hk, rfl⟩ := List.mem_map.mp hx
    have hk := List.mem_range.mp hk
    rw [stepB_at (by omega)]
    exact decide_eq_true (List.pairwise_iff_getElem.mp h k (k + 1) (by omega) (by omega) (by omega))
theorem g_is_ascending (n : Nat) (ps : List (Int × Int)) (M : MM) (hl : ps.length ≤ 1000) : G HasC.c (n + 1) .p_is_ascending [.tup (ps.map pD)] M = some (.bl (ordB ps), M) := by
  show mFun 2 (B_p_is_ascending (G HasC.c n)) [.tup (ps.map pD)] M = _
  have r1 : rng1 [.int ((ps.length : Int) - 1)] = some (0, (ps.length : Int) - 1) := by
    show (if ((ps.length : Int) - 1).natAbs ≤ 1000000 then some ((0 : Int), (ps.length : Int) - 1) else none) = _
    rw [if_pos (by omega)]
  have e1 : ((ps.length : Int) - 1 - 0).toNat = ps.length - 1 := by omega
  have h3 : lcD (tgName 1) mYes (mOp oLtX (mOp oIx (mVar 0) (mVar 1)) (mOp oIx (mVar 0) (mOp oAdd (mVar 1) (mC (.int 1))))) (wipeD [some (D.tup (ps.map pD)), none] [1]) (rangeD 0 (ps.length - 1)) M = some ((rangeD 0 (ps.length - 1)).map fun d => .bl (stepB ps d), M) := by
    refine lcD_map _ fun d hd => ⟨_, rfl, ?_⟩
    obtain ⟨k, hk, rfl⟩ := List.mem_map.mp hd
    have hk := List.mem_range.mp hk
    have a1 : atI (ps.map pD) ((0 : Int) + (k : Nat)) = some (pD ps[k]) := by
      have e : (0 : Int) + (k : Nat) = (k : Nat) := by omega
      rw [e]
      exact atI_nat (by rw [List.getElem?_map, List.getElem?_eq_getElem (by omega)]; rfl)
    have a2 : atI (ps.map pD) ((0 : Int) + (k : Nat) + 1) = some (pD ps[k + 1]) := by
      have e : (0 : Int) + (k : Nat) + 1 = ((k + 1 : Nat) : Int) := by omega
      rw [e]
      exact atI_nat (by rw [List.getElem?_map, List.getElem?_eq_getElem (by omega)]; rfl)
    rw [stepB_at (by omega), ← pairLt_ltP]
    have o : oLtX M (pD ps[k]) (pD ps[k + 1]) = some (.bl (HX.pairLt ps[k].1 ps[k].2 ps[k + 1].1 ps[k + 1].2)) := rfl
    simp only [mOp, mVar, mC, wipeD, tgName, List.set_cons_succ, List.set_cons_zero, List.getElem?_cons_zero, List.getElem?_cons_succ, Option.bind_some, oIx, oAdd, a1, a2, o]
  have e2 : ((rangeD 0 (ps.length - 1)).map fun d => D.bl (stepB ps d)) = (rangeD 0 (ps.length - 1)).map fun d => .bl (stepB ps d) := rfl
  simp only [mFun, B_p_is_ascending, mRet, mFn, mCons, mNil, mLcR, mOp, mVar, mC, startD, List.map_cons, List.map_nil, List.length_cons, List.length_nil, Nat.zero_add, Nat.reduceSub, Nat.reduceAdd, List.replicate_succ, List.replicate_zero, List.cons_append, List.nil_append,
    List.getElem?_cons_zero, Option.bind_some, oLen, oSub, oI, List.length_map, r1, e1]
  rw [if_pos (by omega)]
  simp only [h3, oAll, boolsOf_map, List.all_map]
  have := asc_iff (ps := ps)
  simp only [Function.comp_def, id]
  rw [← this]
end MT

namespace MT
open PySem PySem.Spec PyProof.Rows L2 NL
variable [HasC]
/-! ### ties, companies -/
def ordD (xs : List D) : Bool := match pairsOf xs with
  | some ps => ordB ps
  | none => false
theorem ordD_map (ps : List (Int × Int)) : ordD (ps.map pD) = ordB ps := by
  unfold ordD
  rw [pairsOf_map]
def tiesB (n : Int) : D → Bool
  | .tup xs => xs.all (prB n) && ordD xs
  | _ => false
def coB (named : Int) : D → Bool
  | .tup [p, t] => match p with
    | .int n => btw (.int n) named 9 && tiesB n t
    | _ => false
  | _ => false
theorem g_are_ties_of {k : Nat} (n : Nat) (m : Int) (d : D) (M : MM) (hg : good k d = true) : G HasC.c (n + 4) .p_are_ties_of [.int m, d] M = some (.bl (tiesB m d), M) := by
  show mFun 3 (B_p_are_ties_of (G HasC.c (n + 3))) [.int m, d] M = _
  cases d with
  | tup xs =>
    obtain ⟨j, hj, hl, hx⟩ := good_tup hg
    have h3 : lcD (tgName 2) mYes (mCall (G HasC.c (n + 3) Fid.p_is_pair_of) (mCons (mVar 0) (mCons (mVar 2) mNil))) (wipeD [some (D.int m), some (.tup xs), none] [2]) xs M = some (xs.map fun d => .bl (prB m d), M) :=
      lcD_map _ fun d hd => ⟨_, rfl, g_is_pair_of n m d M (hx d hd)⟩
    cases h : xs.all (prB m) with
    | false => simp [mFun, mSeq, mRet, mDrop, mIfS, mNever, mSkip, mSet, mAsg, mPar2, mPar3, tgName, tgTup, tgCons, tgNil, mVar, mC, mNil, mCons, mTup, mLst, mOp, mUn, mB, mAnd, mOr, mNot, mIf, mChain, mFn, mCall, mIs, mFor, itemsT, itemsL, mYes, mPart, mNo, mSl, startD, tyd, oCmp, oI, oLt, oLtX, oLe, oGt, oGe, oSub, oLen, oIx, isT, B_p_are_ties_of, mLc, h3, hl, oAll, boolsOf_map, tiesB, h, List.all_map, Function.comp_def]
    | true =>
      obtain ⟨ps, hxs, hp⟩ := prs_of (List.all_eq_true.mp h)
      have g1 : G HasC.c (n + 3) .p_is_ascending [.tup xs] M = some (.bl (ordB ps), M) := by
        rw [hxs]
        exact g_is_ascending (n + 2) ps M (by rw [hxs] at hl; simpa using hl)
      have e1 : ordD xs = ordB ps := by rw [hxs]; exact ordD_map ps
      simp [mFun, mSeq, mRet, mDrop, mIfS, mNever, mSkip, mSet, mAsg, mPar2, mPar3, tgName, tgTup, tgCons, tgNil, mVar, mC, mNil, mCons, mTup, mLst, mOp, mUn, mB, mAnd, mOr, mNot, mIf, mChain, mFn, mCall, mIs, mFor, itemsT, itemsL, mYes, mPart, mNo, mSl, startD, tyd, oCmp, oI, oLt, oLtX, oLe, oGt, oGe, oSub, oLen, oIx, isT, B_p_are_ties_of, mLc, h3, hl, oAll, boolsOf_map, tiesB, h, List.all_map, Function.comp_def, e1, g1]
  | _ => first | rfl | (cases k <;> cases hg)
theorem g_is_company_of {k : Nat} (n : Nat) (named : Int) (d : D) (M : MM) (hg : good k d = true) : G HasC.c (n + 5) .p_is_company_of [.int named, d] M = some (.bl (coB named d), M) := by
  show mFun 4 (B_p_is_company_of (G HasC.c (n + 4))) [.int named, d] M = _
  have t2 : G HasC.c (n + 4) .p_is_tuple_of [d, .int 2] M = some (.bl (tupN d 2), M) := g_is_tuple_of (n + 3) d 2 M (good_ty hg) (good_ct hg)
  cases d with
  | tup xs =>
    obtain ⟨j, hj, hl, hx⟩ := good_tup hg
    match xs, hx with
    | [], _ => simp [mFun, mSeq, mRet, mDrop, mIfS, mNever, mSkip, mSet, mAsg, mPar2, mPar3, tgName, tgTup, tgCons, tgNil, mVar, mC, mNil, mCons, mTup, mLst, mOp, mUn, mB, mAnd, mOr, mNot, mIf, mChain, mFn, mCall, mIs, mFor, itemsT, itemsL, mYes, mPart, mNo, mSl, startD, tyd, oCmp, oI, oLt, oLtX, oLe, oGt, oGe, oSub, oLen, oIx, isT, B_p_is_company_of, t2, tupN, coB]
    | [x], _ => simp [mFun, mSeq, mRet, mDrop, mIfS, mNever, mSkip, mSet, mAsg, mPar2, mPar3, tgName, tgTup, tgCons, tgNil, mVar, mC, mNil, mCons, mTup, mLst, mOp, mUn, mB, mAnd, mOr, mNot, mIf, mChain, mFn, mCall, mIs, mFor, itemsT, itemsL, mYes, mPart, mNo, mSl, startD, tyd, oCmp, oI, oLt, oLtX, oLe, oGt, oGe, oSub, oLen, oIx, isT, B_p_is_company_of, t2, tupN, coB]
    | [x, y], hx =>
      have b1 := g_is_between (n + 2) x named 9 M (good_ty (hx x (by simp)))
      cases x with
      | int i =>
        have b2 := g_are_ties_of n i y M (hx y (by simp))
        cases h : btw (.int i) named 9 <;> simp [mFun, mSeq, mRet, mDrop, mIfS, mNever, mSkip, mSet, mAsg, mPar2, mPar3, tgName, tgTup, tgCons, tgNil, mVar, mC, mNil, mCons, mTup, mLst, mOp, mUn, mB, mAnd, mOr, mNot, mIf, mChain, mFn, mCall, mIs, mFor, itemsT, itemsL, mYes, mPart, mNo, mSl, startD, tyd, oCmp, oI, oLt, oLtX, oLe, oGt, oGe, oSub, oLen, oIx, isT, B_p_is_company_of, t2, tupN, coB, b1, b2, h]
      | _ =>
        simp only [btw] at b1
        simp [mFun, mSeq, mRet, mDrop, mIfS, mNever, mSkip, mSet, mAsg, mPar2, mPar3, tgName, tgTup, tgCons, tgNil, mVar, mC, mNil, mCons, mTup, mLst, mOp, mUn, mB, mAnd, mOr, mNot, mIf, mChain, mFn, mCall, mIs, mFor, itemsT, itemsL, mYes, mPart, mNo, mSl, startD, tyd, oCmp, oI, oLt, oLtX, oLe, oGt, oGe, oSub, oLen, oIx, isT, B_p_is_company_of, t2, tupN, coB, b1]
    | x :: y :: z :: r, _ => simp [mFun, mSeq, mRet, mDrop, mIfS, mNever, mSkip, mSet, mAsg, mPar2, mPar3, tgName, tgTup, tgCons, tgNil, mVar, mC, mNil, mCons, mTup, mLst, mOp, mUn, mB, mAnd, mOr, mNot, mIf, mChain, mFn, mCall, mIs, mFor, itemsT, itemsL, mYes, mPart, mNo, mSl, startD, tyd, oCmp, oI, oLt, oLtX, oLe, oGt, oGe, oSub, oLen, oIx, isT, B_p_is_company_of, t2, tupN, coB]
  | _ => simp [mFun, mSeq, mRet, mDrop, mIfS, mNever, mSkip, mSet, mAsg, mPar2, mPar3, tgName, tgTup, tgCons, tgNil, mVar, mC, mNil, mCons, mTup, mLst, mOp, mUn, mB, mAnd, mOr, mNot, mIf, mChain, mFn, mCall, mIs, mFor, itemsT, itemsL, mYes, mPart, mNo, mSl, startD, tyd, oCmp, oI, oLt, oLtX, oLe, oGt, oGe, oSub, oLen, oIx, isT, B_p_is_company_of, t2, tupN, coB]
theorem g_check_named {named : Int} (h : namedB named) (n : Nat) (M : MM) : G HasC.c (n + 3) .p_check_named [.int named] M = some (.non, M) := by
  show mFun 1 (B_p_check_named (G HasC.c (n + 2))) [.int named] M = _
  have b := g_is_between n (.int named) 1 3 M rfl
  have : btw (.int named) 1 3 = true := by simp [btw, h.1, h.2]
  simp [mFun, mSeq, mRet, mDrop, mIfS, mNever, mSkip, mSet, mAsg, mPar2, mPar3, tgName, tgTup, tgCons, tgNil, mVar, mC, mNil, mCons, mTup, mLst, mOp, mUn, mB, mAnd, mOr, mNot, mIf, mChain, mFn, mCall, mIs, mFor, itemsT, itemsL, mYes, mPart, mNo, mSl, startD, tyd, oCmp, oI, oLt, oLtX, oLe, oGt, oGe, oSub, oLen, oIx, isT, B_p_check_named, b, this]
theorem g_check_company {named : Int} (hN : namedB named) {k : Nat} (n : Nat) (d : D) (M : MM) (hg : good k d = true) (h : coB named d = true) : G HasC.c (n + 6) .p_check_company [.int named, d] M = some (.non, M) := by
  show mFun 2 (B_p_check_company (G HasC.c (n + 5))) [.int named, d] M = _
  have c := g_check_named hN (n + 2) M
  have b := g_is_company_of n named d M hg
  simp [mFun, mSeq, mRet, mDrop, mIfS, mNever, mSkip, mSet, mAsg, mPar2, mPar3, tgName, tgTup, tgCons, tgNil, mVar, mC, mNil, mCons, mTup, mLst, mOp, mUn, mB, mAnd, mOr, mNot, mIf, mChain, mFn, mCall, mIs, mFor, itemsT, itemsL, mYes, mPart, mNo, mSl, startD, tyd, oCmp, oI, oLt, oLtX, oLe, oGt, oGe, oSub, oLen, oIx, isT, B_p_check_company, c, b, h]
/-! ### the law's own judge -/
def wholeB (d : D) (lo hi : Int) : Bool := match d with
  | .tup xs => xs.all fun x => btw x lo hi
  | _ => false
theorem oEq_nil {n : Nat} {xs : List D} {M : MM} (h : good n (.lst xs) = true) (hn : n ≤ 64) : oEq M (.lst xs) (.lst []) = some (.bl xs.isEmpty) := by
  show (if (okD (.lst xs) && okD (.lst [])) = true then some (D.bl (oEqv (.lst xs) (.lst []))) else none) = _
  rw [okD_of h hn, show okD (.lst []) = true by decide +kernel]
  cases xs <;> simp [oEqv, py, pys, PyData.eqv, PyData.eqvAll]
theorem oNe_nil {n : Nat} {xs : List D} {M : MM} (h : good n (.lst xs) = true) (hn : n ≤ 64) : oNe M (.lst xs) (.lst []) = some (.bl (!xs.isEmpty)) := by
  unfold oNe
  rw [oEq_nil h hn]
theorem good_ones {xs : List D} (p : D → Bool) (h : xs.length ≤ 1000) : good 1 (.lst ((xs.filter p).map fun _ => D.int 1)) = true := by
  simp only [good, Bool.and_eq_true, List.all_eq_true, decide_eq_true_eq, List.length_map]
  refine ⟨Nat.le_trans (List.length_filter_le _ _) h, fun x hx => ?_⟩
  obtain ⟨y, _, rfl⟩ := List.mem_map.mp hx
  rfl
end MT

namespace MT
open PySem PySem.Spec PyProof.Rows L2 NL
variable [HasC]
/-! ### all pairs of n people -/
def allP (n : Nat) : List (Int × Int) := (List.range n).flatMap fun (i : Nat) => (List.range (n - (i + 1))).map fun (j : Nat) => ((i : Int), (i : Int) + 1 + (j : Int))
theorem allP_ord : ∀ n, n ≤ 9 → ordB (allP n) = true := by decide +kernel
theorem allP_len : ∀ n, n ≤ 9 → (allP n).length ≤ 36 := by decide +kernel
theorem mem_allP {n : Nat} {p : Int × Int} : p ∈ allP n ↔ okP n p := by
  unfold allP okP
  rw [List.mem_flatMap]
  constructor
  · rintro ⟨i, hi, hp⟩
    obtain ⟨j, hj, rfl⟩ := List.mem_map.mp hp
    have hi := List.mem_range.mp hi
    have hj := List.mem_range.mp hj
    simp only
    omega
  · rintro ⟨h1, h2, h3⟩
    refine ⟨p.1.toNat, List.mem_range.mpr (by omega), List.mem_map.mpr ⟨(p.2 - p.1 - 1).toNat, List.mem_range.mpr (by omega), ?_⟩⟩
    exact Prod.ext (by simp only; omega) (by simp only; omega)
theorem g_Lpairs (k n : Nat) (hn : n ≤ 9) (M : MM) : G HasC.c (k + 1) .Lpairs [.int n] M = some (.lst ((allP n).map pD), M) := by
  match n, hn with
  | 0, _ => rfl
  | 1, _ => rfl
  | 2, _ => rfl
  | 3, _ => rfl
  | 4, _ => rfl
  | 5, _ => rfl
  | 6, _ => rfl
  | 7, _ => rfl
  | 8, _ => rfl
  | 9, _ => rfl
  | n + 10, h => omega
theorem g_pairs_of (k n : Nat) (hn : n ≤ 9) (M : MM) : G HasC.c (k + 1) .p_pairs_of [.int n] M = some (.lst ((allP n).map pD), M) := by
  match n, hn with
  | 0, _ => rfl
  | 1, _ => rfl
  | 2, _ => rfl
  | 3, _ => rfl
  | 4, _ => rfl
  | 5, _ => rfl
  | 6, _ => rfl
  | 7, _ => rfl
  | 8, _ => rfl
  | 9, _ => rfl
  | n + 10, h => omega
/-! ### who knows whom -/
def prD (a b : Int) : Int × Int := (lo2 a b, hi2 a b)
theorem g_two (k : Nat) (a b : Int) (M : MM) : G HasC.c (k + 1) .Ltwo [.int a, .int b] M = some (pD (prD a b), M) := by
  show mFun 2 (B_Ltwo (G HasC.c k)) [.int a, .int b] M = _
  by_cases h : a < b <;> simp [mFun, mSeq, mRet, mDrop, mIfS, mNever, mSkip, mSet, mAsg, mPar2, mPar3, tgName, tgTup, tgCons, tgNil, mVar, mC, mNil, mCons, mTup, mLst, mOp, mUn, mB, mAnd, mOr, mNot, mIf, mChain, mFn, mCall, mIs, mFor, itemsT, itemsL, mYes, mPart, mNo, mSl, startD, tyd, oCmp, oI, oLt, oLtX, oLe, oGt, oGe, oSub, oLen, oIx, isT, B_Ltwo, h, prD, pD, lo2, hi2]
theorem g_pair_of (k : Nat) (a b : Int) (M : MM) : G HasC.c (k + 1) .p_pair_of [.int a, .int b] M = some (pD (prD a b), M) := by
  show mFun 2 (B_p_pair_of (G HasC.c k)) [.int a, .int b] M = _
  by_cases h : a < b <;> simp [mFun, mSeq, mRet, mDrop, mIfS, mNever, mSkip, mSet, mAsg, mPar2, mPar3, tgName, tgTup, tgCons, tgNil, mVar, mC, mNil, mCons, mTup, mLst, mOp, mUn, mB, mAnd, mOr, mNot, mIf, mChain, mFn, mCall, mIs, mFor, itemsT, itemsL, mYes, mPart, mNo, mSl, startD, tyd, oCmp, oI, oLt, oLtX, oLe, oGt, oGe, oSub, oLen, oIx, isT, B_p_pair_of, h, prD, pD, lo2, hi2]
theorem anyEq_prs (p : Int × Int) : ∀ ts : List (Int × Int), anyEq (pD p) (ts.map pD) = decide (p ∈ ts)
  | [] => rfl
  | t :: ts => by
    show (oEqv (pD t) (pD p) || anyEq (pD p) (ts.map pD)) = _
    rw [anyEq_prs p ts, Bool.eq_iff_iff, Bool.or_eq_true, eqv_j (jd_pD t) (jd_pD p), decide_eq_true_iff, decide_eq_true_iff, List.mem_cons]
    constructor
    · rintro (h | h)
      · exact .inl (pD_inj h).symm
      · exact .inr h
    · rintro (h | h)
      · exact .inl (by rw [h])
      · exact .inr h
def inT (ts : List (Int × Int)) (a b : Int) : Bool := decide (prD a b ∈ ts)
def cD (n : Int) (ts : List (Int × Int)) : D := .tup [.int n, .tup (ts.map pD)]
theorem good_cD {n : Int} {ts : List (Int × Int)} (h : ts.length ≤ 1000) : good 3 (cD n ts) = true := by
  have := (good_prs h).1
  simp only [cD, good, List.length_cons, List.length_nil, List.all_cons, List.all_nil, Bool.and_true, Bool.and_eq_true, decide_eq_true_eq]
  exact ⟨by omega, trivial, by simpa [good] using this⟩
theorem jd_cD (n : Int) (ts : List (Int × Int)) : jd (cD n ts) = true := by
  show (true && (jds (ts.map pD) && true)) = true
  rw [jds_map jd_pD ts]
  rfl
theorem oInX_prs {ts : List (Int × Int)} {p : Int × Int} {M : MM} (h : ts.length ≤ 1000) : oInX M (pD p) (.tup (ts.map pD)) = some (.bl (decide (p ∈ ts))) := by
  have e : getD M (.tup (ts.map pD)) (pD p) = none := rfl
  unfold oInX
  rw [e]
  show (if (okD (pD p) && okD (.tup (ts.map pD))) = true then some (D.bl (anyEq (pD p) (ts.map pD))) else none) = _
  rw [okD_of (good_pD 0 p) (by decide), okD_of (good_prs h).1 (by decide), anyEq_prs]
  rfl
theorem cD_0 (n : Int) (ts : List (Int × Int)) : atI [D.int n, .tup (ts.map pD)] 0 = some (.int n) := at0 _ _
theorem cD_1 (n : Int) (ts : List (Int × Int)) : atI [D.int n, .tup (ts.map pD)] 1 = some (.tup (ts.map pD)) := at1 _ _ _
theorem g_knows (k : Nat) (n a b : Int) (ts : List (Int × Int)) (M : MM) (h : ts.length ≤ 1000) : G HasC.c (k + 2) .Lknows [cD n ts, .int a, .int b] M = some (.bl (inT ts a b), M) := by
  show mFun 3 (B_Lknows (G HasC.c (k + 1))) [cD n ts, .int a, .int b] M = _
  have t := g_two k a b M
  have i := oInX_prs (p := prD a b) (M := M) h
  have c1 := cD_1 n ts
  simp [mFun, mSeq, mRet, mDrop, mIfS, mNever, mSkip, mSet, mAsg, mPar2, mPar3, tgName, tgTup, tgCons, tgNil, mVar, mC, mNil, mCons, mTup, mLst, mOp, mUn, mB, mAnd, mOr, mNot, mIf, mChain, mFn, mCall, mIs, mFor, itemsT, itemsL, mYes, mPart, mNo, mSl, startD, tyd, oCmp, oI, oLt, oLtX, oLe, oGt, oGe, oSub, oLen, oIx, isT, B_Lknows, t, cD, c1, i, inT]
/-- a company of n people, k of them named -/
structure Co (k n : Nat) (ts : List (Int × Int)) : Prop where
  k1 : 1 ≤ k
  k3 : k ≤ 3
  kn : k ≤ n
  n9 : n ≤ 9
  ok : ∀ p ∈ ts, okP n p
  ord : ordB ts = true
theorem len_ord {n : Nat} {ts : List (Int × Int)} (hn : n ≤ 9) (ok : ∀ p ∈ ts, okP n p) (ord : ordB ts = true) : ts.length ≤ 36 := by
  have h1 := ordB_iff.mp ord
  have e : ts = (allP n).filter fun p => decide (p ∈ ts) := by
    refine sorted_one h1 ((ordB_iff.mp (allP_ord n hn)).filter _) fun p => ?_
    rw [List.mem_filter, decide_eq_true_iff, mem_allP]
    exact ⟨fun h => ⟨ok p h, h⟩, fun h => h.2⟩
  rw [e]
  exact Nat.le_trans (List.length_filter_le _ _) (allP_len n hn)
theorem Co.len {k n : Nat} {ts : List (Int × Int)} (c : Co k n ts) : ts.length ≤ 36 := len_ord c.n9 c.ok c.ord
theorem Co.co {k n : Nat} {ts : List (Int × Int)} (c : Co k n ts) : coB k (cD n ts) = true := by
  show (btw (.int n) k 9 && ((ts.map pD).all (prB n) && ordD (ts.map pD))) = true
  rw [ordD_map, c.ord, Bool.and_true, Bool.and_eq_true]
  refine ⟨?_, List.all_eq_true.mpr fun x hx => ?_⟩
  · have := c.kn
    have := c.n9
    simp [btw]
    omega
  · obtain ⟨p, hp, rfl⟩ := List.mem_map.mp hx
    exact prB_pD.mpr (c.ok p hp)
theorem Co.nm {k n : Nat} {ts : List (Int × Int)} (c : Co k n ts) : namedB k := ⟨by have := c.k1; omega, by have := c.k3; omega⟩
end MT

namespace MT
open PySem PySem.Spec PyProof.Rows L2 NL
variable [HasC]
/-! ### a bundle of one company -/
def kv (p : Int × Int) : List Key := [.inl p.1, .inl p.2]
theorem kv_inj {p q : Int × Int} (h : kv p = kv q) : p = q := by
  unfold kv at h
  injection h with h1 h2
  injection h2 with h2 _
  injection h1 with h1
  injection h2 with h2
  exact Prod.ext h1 h2
theorem keyT_kv (p : Int × Int) : keyT (kv p) = pD p := rfl
theorem keysD_pD (p : Int × Int) : keysD [.int p.1, .int p.2] = some (kv p) := rfl
/-- the dict of a bundle: to each pair its number -/
def gD (l : List (Int × Int)) (g : Int × Int → Int) : D := .dt (l.map kv) (l.map fun p => .int (g p))
def bD (n : Nat) (g : Int × Int → Int) : D := .ins HasC.c ["people", "full", "ties"] [.int n, .int 1, gD (allP n) g]
theorem look_map {l : List (Int × Int)} {g : Int × Int → Int} {p : Int × Int} : p ∈ l → look (l.map kv) (l.map fun q => D.int (g q)) (kv p) = some (.int (g p)) := by
  induction l with
  | nil => intro h; cases h
  | cons q l ih =>
    intro h
    show look (kv q :: l.map kv) (D.int (g q) :: l.map fun q => D.int (g q)) (kv p) = _
    unfold look
    by_cases e : kv q = kv p
    · rw [if_pos e]
      have := kv_inj e
      rw [this]
    · rw [if_neg e]
      refine ih ((List.mem_cons.mp h).elim (fun z => absurd (by rw [z]) e) id)
theorem look_no {l : List (Int × Int)} {g : Int × Int → Int} {p : Int × Int} : p ∉ l → look (l.map kv) (l.map fun q => D.int (g q)) (kv p) = none := by
  induction l with
  | nil => intro _; rfl
  | cons q l ih =>
    intro h
    show look (kv q :: l.map kv) (D.int (g q) :: l.map fun q => D.int (g q)) (kv p) = _
    unfold look
    rw [if_neg fun e => h (by rw [kv_inj e]; exact List.mem_cons_self)]
    exact ih fun z => h (List.mem_cons_of_mem _ z)
theorem getO_gD {l : List (Int × Int)} {g : Int × Int → Int} {p : Int × Int} : getO (gD l g) (pD p) = some (look (l.map kv) (l.map fun q => D.int (g q)) (kv p)) := rfl
theorem oIxX_gD {l : List (Int × Int)} {g : Int × Int → Int} {p : Int × Int} {M : MM} (h : p ∈ l) : oIxX M (gD l g) (pD p) = some (.int (g p)) := by
  have e : getD M (gD l g) (pD p) = some (some (.int (g p))) := by
    show getO (gD l g) (pD p) = _
    rw [getO_gD, look_map h]
  unfold oIxX
  rw [e]
theorem m_fld {r : En} {i n : Nat} {g : Int × Int → Int} {f : Str} {d : D} {M : MM} (h : r[i]? = some (some (bD n g))) (l : look (["people", "full", "ties"] : List Str) [D.int n, .int 1, gD (allP n) g] f = some d) : mFld HasC.c f (mVar i) r M = some (d, M) := by
  unfold mFld mVar
  rw [h]
  show (match some (D.ins HasC.c ["people", "full", "ties"] [.int n, .int 1, gD (allP n) g], M) with
    | some (.ins C' ns ds, M1) => if C' = HasC.c then match look ns ds f with
      | some d => some (d, M1)
      | none => none
    else none
    | _ => none) = _
  simp only [if_true]
  rw [l]
theorem l_people {n : Nat} {x : D} : look (["people", "full", "ties"] : List Str) [D.int n, .int 1, x] ("people" : Str) = some (.int n) := rfl
theorem l_full {n : Nat} {x : D} : look (["people", "full", "ties"] : List Str) [D.int n, .int 1, x] ("full" : Str) = some (.int 1) := rfl
theorem l_ties {n : Nat} {x : D} : look (["people", "full", "ties"] : List Str) [D.int n, .int 1, x] ("ties" : Str) = some x := rfl
theorem g_knowing (k n : Nat) (g : Int × Int → Int) (a b : Int) (M : MM) (h : prD a b ∈ allP n) : G HasC.c (k + 2) .Bundle_knowing [bD n g, .int a, .int b] M = some (.int (g (prD a b)), M) := by
  show mFun 3 (B_Bundle_knowing HasC.c (G HasC.c (k + 1))) [bD n g, .int a, .int b] M = _
  have e1 := g_pair_of k a b M
  have e2 : oIxX M (gD (allP n) g) (pD (prD a b)) = some (.int (g (prD a b))) := oIxX_gD h
  have e3 : mFld HasC.c "ties" (mVar 0) [some (bD n g), some (.int a), some (.int b)] M = some (gD (allP n) g, M) := m_fld rfl l_ties
  simp only [mFun, B_Bundle_knowing, mRet, mOp, startD, List.map_cons, List.map_nil, List.length_cons, List.length_nil, Nat.zero_add, Nat.reduceAdd, Nat.sub_self, List.replicate_zero, List.append_nil, e3, mCall, mCons, mNil, mVar, List.getElem?_cons_succ, List.getElem?_cons_zero, e1, e2]
/-! ### what comes of the ties that are told -/
theorem putO_new {l : List (Int × Int)} {g : Int × Int → Int} {p : Int × Int} {i : Int} (h : p ∉ l) (hl : l.length ≤ 1000) (hg : g p = i) : putO (gD l g) (pD p) (.int i) = some (gD (l ++ [p]) g) := by
  have no : kv p ∉ l.map kv := fun z => by
    obtain ⟨q, hq, e⟩ := List.mem_map.mp z
    exact h (kv_inj e ▸ hq)
  show (if (l.map fun q => D.int (g q)).length ≤ 1000 then some (D.dt (putKs (l.map kv) (kv p)) (putVs (l.map kv) (l.map fun q => D.int (g q)) (kv p) (.int i))) else none) = _
  rw [if_pos (by rw [List.length_map]; exact hl)]
  unfold putKs putVs
  rw [if_neg no, if_neg no]
  unfold gD
  rw [List.map_append, List.map_append, ← hg]
  rfl
theorem dc_new {tg : FT} {t : FB} {fk fe : FE} {r : En} {M : MM} {g : Int × Int → Int} : ∀ (ps l : List (Int × Int)), (l ++ ps).Nodup → (l ++ ps).length ≤ 1000 → (∀ p ∈ ps, ∃ r1, tg (pD p) r = some r1 ∧ t r1 M = some (true, M) ∧ fk r1 M = some (pD p, M) ∧ fe r1 M = some (.int (g p), M)) →
    dcD tg t fk fe r (ps.map pD) (gD l g) M = some (gD (l ++ ps) g, M)
  | [], l, _, _, _ => by
    rw [List.append_nil]
    rfl
  | p :: ps, l, nd, hl, h => by
    obtain ⟨r1, h1, h2, h3, h4⟩ := h p List.mem_cons_self
    have e : l ++ p :: ps = (l ++ [p]) ++ ps := by simp
    have no : p ∉ l := fun z => (List.nodup_append.mp nd).2.2 p z p List.mem_cons_self rfl
    have hp := putO_new (g := g) (p := p) (i := g p) no (by simp at hl; omega) rfl
    show dcD tg t fk fe r (pD p :: ps.map pD) (gD l g) M = _
    unfold dcD
    rw [h1]
    simp only []
    rw [h2]
    simp only []
    rw [h3]
    simp only []
    rw [h4]
    simp only []
    rw [hp, e]
    exact dc_new ps (l ++ [p]) (e ▸ nd) (e ▸ hl) fun q hq => h q (List.mem_cons_of_mem _ hq)
theorem allP_nd (n : Nat) (h : n ≤ 9) : (allP n).Nodup := by
  have : ∀ n, n ≤ 9 → (allP n).Nodup := by decide +kernel
  exact this n h
/-- what with_ties leaves: what is told, else what was -/
def wT (tl : List (Int × Int)) (tg g : Int × Int → Int) (p : Int × Int) : Int := if p ∈ tl then tg p else g p
theorem getD_gD {M : MM} {o : D} {tl : List (Int × Int)} {tg : Int × Int → Int} {p : Int × Int} (ho : o = gD tl tg ∨ ∃ i, o = .mu i ∧ M[i]? = some (gD tl tg)) : getD M o (pD p) = some (if p ∈ tl then some (.int (tg p)) else none) := by
  have e : getO (gD tl tg) (pD p) = some (if p ∈ tl then some (.int (tg p)) else none) := by
    rw [getO_gD]
    by_cases h : p ∈ tl
    · rw [if_pos h, look_map h]
    · rw [if_neg h, look_no h]
  rcases ho with rfl | ⟨i, rfl, hi⟩
  · exact e
  · show (match M[i]? with | some d => getO d (pD p) | none => none) = _
    rw [hi]
    exact e
theorem g_with_ties (k n : Nat) (n9 : n ≤ 9) (g : Int × Int → Int) (o : D) (tl : List (Int × Int)) (tg : Int × Int → Int) (M : MM) (ho : o = gD tl tg ∨ ∃ i, o = .mu i ∧ M[i]? = some (gD tl tg)) : G HasC.c (k + 3) .Bundle_with_ties [bD n g, o] M = some (bD n (wT tl tg g), M) := by
  show mFun 4 (B_Bundle_with_ties HasC.c (G HasC.c (k + 2))) [bD n g, o] M = _
  have hmk : ∀ M, G HasC.c (k + 2) .mk_Bundle [.int n, .int 1, gD (allP n) (wT tl tg g)] M = some (bD n (wT tl tg g), M) := fun _ => rfl
  have dic : isDic M o = true := by
    rcases ho with rfl | ⟨i, rfl, hi⟩
    · rfl
    · show (match M[i]? with | some (.dk _ _) => true | some (.dt _ _) => true | _ => false) = true
      rw [hi]
      rfl
  have lt : look (["people", "full", "ties"] : List Str) [D.int n, .int 1, gD (allP n) g] "ties" = some (gD (allP n) g) := rfl
  have dc : dcD (tgName 3) mYes (mVar 3) (mGet (mVar 1) (mVar 3) (mOp oIxX (mFld HasC.c "ties" (mVar 0)) (mVar 3))) [some (bD n g), some o, none, none] ((allP n).map pD) (gD [] (wT tl tg g)) M = some (gD ([] ++ allP n) (wT tl tg g), M) := by
    refine dc_new (allP n) [] (by simpa using allP_nd n n9) (by simpa using Nat.le_trans (allP_len n n9) (by decide)) fun p hp => ⟨_, rfl, rfl, rfl, ?_⟩
    have e2 : oIxX M (gD (allP n) g) (pD p) = some (.int (g p)) := oIxX_gD hp
    have e1 := getD_gD (p := p) ho
    have e3 : mFld HasC.c "ties" (mVar 0) [some (bD n g), some o, none, some (pD p)] M = some (gD (allP n) g, M) := m_fld rfl l_ties
    generalize bD n g = bb at *
    generalize gD (allP n) g = gg at *
    generalize pD p = y at *
    show mGet (mVar 1) (mVar 3) (mOp oIxX (mFld HasC.c "ties" (mVar 0)) (mVar 3)) [some bb, some o, none, some y] M = _
    have e4 : (if p ∈ tl then some (D.int (tg p)) else none).getD (D.int (g p)) = .int (wT tl tg g p) := by
      unfold wT
      by_cases h : p ∈ tl
      · rw [if_pos h, if_pos h]
        rfl
      · rw [if_neg h, if_neg h]
        rfl
    simp only [mGet, mOp]
    simp only [mVar, List.getElem?_cons_succ, List.getElem?_cons_zero, dic, if_true]
    rw [e3]
    simp only []
    rw [e2]
    simp only []
    rw [e1]
    simp only []
    rw [e4]
  rw [List.nil_append] at dc
  have km : ((allP n).map kv).map keyT = (allP n).map pD := by
    rw [List.map_map]
    rfl
  have dt : dtAt 0 HasC.c "ties" [some (bD n g), some o, none, none] = some ((allP n).map kv) := by
    have e : ([some (bD n g), some o, none, none] : En)[0]? = some (some (bD n g)) := rfl
    unfold dtAt
    rw [e]
    simp only [bD, if_true]
    rw [l_ties]
    rfl
  have s1 : mAsg (mDcK (.dt [] []) 0 HasC.c "ties" (tgName 3) mYes (mVar 3) (mGet (mVar 1) (mVar 3) (mOp oIxX (mFld HasC.c "ties" (mVar 0)) (mVar 3))) [3]) (tgName 2) [some (bD n g), some o, none, none] M = some (.nx [some (bD n g), some o, some (gD (allP n) (wT tl tg g)), none], M) := by
    unfold mAsg mDcK
    rw [dt]
    simp only []
    rw [km]
    have e0 : (D.dt [] []) = gD [] (wT tl tg g) := rfl
    have w0 : wipeD [some (bD n g), some o, none, none] [3] = [some (bD n g), some o, none, none] := rfl
    rw [e0, w0, dc]
    rfl
  have lp : mFld HasC.c "people" (mVar 0) [some (bD n g), some o, some (gD (allP n) (wT tl tg g)), none] M = some (.int n, M) := m_fld rfl l_people
  have lf : mFld HasC.c "full" (mVar 0) [some (bD n g), some o, some (gD (allP n) (wT tl tg g)), none] M = some (.int 1, M) := m_fld rfl l_full
  have st : startD 4 [bD n g, o] = [some (bD n g), some o, none, none] := rfl
  unfold mFun
  rw [st]
  unfold B_Bundle_with_ties mSeq
  rw [s1]
  simp only [mRet, mCall, mCons, mNil, lp, lf]
  simp only [mVar, List.getElem?_cons_succ, List.getElem?_cons_zero, hmk]
end MT

namespace MT
open PySem PySem.Spec PyProof.Rows L2 NL
variable [HasC]
/-! ### what is answered -/
def b2i (b : Bool) : Int := if b then 1 else 0
theorem ans6 (k : Nat) (w f s a0 a1 a2 a3 a4 a5 : Bool) (M : MM) :
    G HasC.c (k + 1) .p_answered [.tup [.int (b2i a0), .int (b2i a1), .int (b2i a2), .int (b2i a3), .int (b2i a4), .int (b2i a5)], .tup [.int (b2i (!w)), .int (b2i w)], .tup [.int (b2i (!(f || s))), .int (b2i (xor f s)), .int (b2i (f && s))]] M =
      some (.int (b2i (match w, f, s with
        | false, false, false => a0
        | false, true, true => a2
        | false, _, _ => a1
        | true, false, false => a3
        | true, true, true => a5
        | true, _, _ => a4)), M) := by
  show mFun 9 (B_p_answered (G HasC.c k)) _ M = _
  cases w <;> cases f <;> cases s <;> cases a0 <;> cases a1 <;> cases a2 <;> cases a3 <;> cases a4 <;> cases a5 <;> rfl
theorem ans4 (k : Nat) (w t a0 a1 a2 a3 : Bool) (M : MM) :
    G HasC.c (k + 1) .p_answered [.tup [.int (b2i a0), .int (b2i a1), .int (b2i a2), .int (b2i a3)], .tup [.int (b2i (!w)), .int (b2i w)], .tup [.int (b2i (!t)), .int (b2i t)]] M =
      some (.int (b2i (match w, t with
        | false, false => a0
        | false, true => a1
        | true, false => a2
        | true, true => a3)), M) := by
  show mFun 9 (B_p_answered (G HasC.c k)) _ M = _
  cases w <;> cases t <;> cases a0 <;> cases a1 <;> cases a2 <;> cases a3 <;> rfl
end MT

namespace MT
open PySem PySem.Spec PyProof.Rows L2 NL
variable [HasC]
/-! ### a key put anew -/
def updF (g : Int × Int → Int) (p : Int × Int) (i : Int) (q : Int × Int) : Int := if q = p then i else g q
theorem setVs_map {g : Int × Int → Int} {p : Int × Int} {i : Int} : ∀ l : List (Int × Int), setVs (l.map kv) (l.map fun q => D.int (g q)) (kv p) (.int i) = l.map fun q => D.int (updF g p i q)
  | [] => rfl
  | q :: l => by
    show (if kv q = kv p then D.int i else D.int (g q)) :: setVs (l.map kv) (l.map fun q => D.int (g q)) (kv p) (.int i) = D.int (updF g p i q) :: l.map fun q => D.int (updF g p i q)
    rw [setVs_map l]
    congr 1
    unfold updF
    by_cases e : q = p
    · rw [if_pos e, if_pos (by rw [e])]
    · rw [if_neg e, if_neg fun z => e (kv_inj z)]
theorem putO_old {l : List (Int × Int)} {g : Int × Int → Int} {p : Int × Int} {i : Int} (h : p ∈ l) (hl : l.length ≤ 1000) : putO (gD l g) (pD p) (.int i) = some (gD l (updF g p i)) := by
  have yes : kv p ∈ l.map kv := List.mem_map_of_mem h
  show (if (l.map fun q => D.int (g q)).length ≤ 1000 then some (D.dt (putKs (l.map kv) (kv p)) (putVs (l.map kv) (l.map fun q => D.int (g q)) (kv p) (.int i))) else none) = _
  rw [if_pos (by rw [List.length_map]; exact hl)]
  unfold putKs putVs
  rw [if_pos yes, if_pos yes, setVs_map]
  rfl
theorem gD_clean {k : Nat} {l : List (Int × Int)} {g : Int × Int → Int} : NL.clean k (gD l g) = true := by
  have : ∀ l : List (Int × Int), NL.cleans k (l.map fun p => D.int (g p)) = true := fun l => by
    induction l with
    | nil => rfl
    | cons p l ih => exact Bool.and_eq_true_iff.mpr ⟨rfl, ih⟩
  exact this l
/-! ### a bundle made -/
def tG (ts : List (Int × Int)) (p : Int × Int) : Int := b2i (decide (p ∈ ts))
def cup (a b : Int) : D := .lst [.int a, .int b]
def bo (cs : D) (n : Nat) (e3 e4 e5 e6 : Option D) : En := [some cs, some (.int n), some (.mu 1), e3, e4, e5, e6]
def boB : FS := mPut (mOp oBor (mOp oIxX (mVar 2) (mVar 5)) (mOp oShl (mC (.int 1)) (mVar 3))) (mVar 2) (mVar 5)
theorem bo_step (cs : D) (n : Nat) (n9 : n ≤ 9) (a b : Int) (e4 e6 : Option D) (g : Int × Int → Int) (p : Int × Int) (hp : p ∈ allP n) (h0 : g p = 0) :
    boB (bo cs n (some (.int 0)) e4 (some (pD p)) e6) [cup a b, gD (allP n) g] = some (.nx (bo cs n (some (.int 0)) e4 (some (pD p)) e6), [cup a b, gD (allP n) (updF g p 1)]) := by
  have e1 : getD [cup a b, gD (allP n) g] (.mu 1) (pD p) = some (some (.int (g p))) := by
    show getO (gD (allP n) g) (pD p) = _
    rw [getO_gD, look_map hp]
  have e2 : oIxX [cup a b, gD (allP n) g] (.mu 1) (pD p) = some (.int 0) := by
    unfold oIxX
    rw [e1, h0]
  have e3 : ∀ M, oShl M (.int 1) (.int 0) = some (.int 1) := fun _ => rfl
  have e4' : ∀ M, oBor M (.int 0) (.int 1) = some (.int 1) := fun _ => rfl
  have e5 := putO_old (g := g) (i := 1) hp (Nat.le_trans (allP_len n n9) (by decide))
  generalize gD (allP n) (updF g p 1) = gg' at *
  generalize gD (allP n) g = gg at *
  generalize pD p = y at *
  simp only [boB, bo, mPut, mOp, mVar, mC, List.getElem?_cons_succ, List.getElem?_cons_zero, e2, e3, e4', e5, List.set_cons_succ, List.set_cons_zero]
theorem bo_loop (cs : D) (n : Nat) (n9 : n ≤ 9) (a b : Int) (e4 e6 : Option D) : ∀ (ts : List (Int × Int)) (e5 : Option D) (g : Int × Int → Int), (∀ p ∈ ts, p ∈ allP n) → ts.Nodup → (∀ p ∈ ts, g p = 0) →
    ∃ f5 : Option D, forD (tgName 5) boB (ts.map pD) (bo cs n (some (.int 0)) e4 e5 e6) [cup a b, gD (allP n) g] = some (.nx (bo cs n (some (.int 0)) e4 f5 e6), [cup a b, gD (allP n) fun p => if p ∈ ts then 1 else g p])
  | [], e5, g, _, _, _ => ⟨e5, by
    have : (fun p => if p ∈ ([] : List (Int × Int)) then 1 else g p) = g := by
      funext p
      simp
    rw [this]
    rfl⟩
  | t :: ts, e5, g, hm, nd, h0 => by
    obtain ⟨no, nd'⟩ := List.nodup_cons.mp nd
    obtain ⟨f5, q⟩ := bo_loop cs n n9 a b e4 e6 ts (some (pD t)) (updF g t 1) (fun p hp => hm p (List.mem_cons_of_mem _ hp)) nd' fun p hp => by
      have ne : p ≠ t := fun z => no (z ▸ hp)
      unfold updF
      rw [if_neg ne]
      exact h0 p (List.mem_cons_of_mem _ hp)
    refine ⟨f5, ?_⟩
    have e : (fun p => if p ∈ t :: ts then 1 else g p) = fun p => if p ∈ ts then 1 else updF g t 1 p := by
      funext p
      unfold updF
      by_cases h1 : p ∈ ts
      · rw [if_pos h1, if_pos (List.mem_cons_of_mem _ h1)]
      · rw [if_neg h1]
        by_cases h2 : p = t
        · rw [if_pos h2, if_pos (by rw [h2]; exact List.mem_cons_self)]
        · rw [if_neg h2, if_neg fun z => (List.mem_cons.mp z).elim h2 h1]
    rw [e, ← q]
    have st := bo_step cs n n9 a b e4 e6 g t (hm t List.mem_cons_self) (h0 t List.mem_cons_self)
    show forD (tgName 5) boB (pD t :: ts.map pD) _ _ = _
    rw [forD]
    have tg : tgName 5 (pD t) (bo cs n (some (.int 0)) e4 e5 e6) = some (bo cs n (some (.int 0)) e4 (some (pD t)) e6) := rfl
    rw [tg]
    dsimp only
    rw [st]
theorem g_bundle_of {kk n : Nat} {ts : List (Int × Int)} (c : Co kk n ts) (nd : ts.Nodup) (k : Nat) (a b : Int) : G HasC.c (k + 3) .p_bundle_of [.lst [cD n ts]] [cup a b] = some (bD n (tG ts), [cup a b]) := by
  have n9 := c.n9
  show mFun 7 (B_p_bundle_of (G HasC.c (k + 2))) [.lst [cD n ts]] [cup a b] = _
  have st : startD 7 [.lst [cD n ts]] = [some (.lst [cD n ts]), none, none, none, none, none, none] := rfl
  have i0 : ∀ M, oIx M (.lst [cD n ts]) (.int 0) = some (cD n ts) := fun _ => at0 _ _
  have i1 : ∀ M, oIx M (cD n ts) (.int 0) = some (.int n) := fun _ => cD_0 n ts
  have i2 : ∀ M, oIx M (cD n ts) (.int 1) = some (.tup (ts.map pD)) := fun _ => cD_1 n ts
  have s1 : mAsg (mOp oIx (mOp oIx (mVar 0) (mC (.int 0))) (mC (.int 0))) (tgName 1) [some (.lst [cD n ts]), none, none, none, none, none, none] [cup a b] = some (.nx [some (.lst [cD n ts]), some (.int n), none, none, none, none, none], [cup a b]) := by
    simp only [mAsg, mOp, mVar, mC, List.getElem?_cons_zero, i0, i1, tgName, List.set_cons_succ, List.set_cons_zero]
  have pr := g_pairs_of (k + 1) n n9 [cup a b]
  have dc : dcD (tgName 6) mYes (mVar 6) (mC (.int 0)) [some (.lst [cD n ts]), some (.int n), none, none, none, none, none] ((allP n).map pD) (gD [] fun _ => 0) [cup a b] = some (gD ([] ++ allP n) fun _ => 0, [cup a b]) :=
    dc_new (allP n) [] (by simpa using allP_nd n n9) (by simpa using Nat.le_trans (allP_len n n9) (by decide)) fun p hp => ⟨_, rfl, rfl, rfl, rfl⟩
  rw [List.nil_append] at dc
  have s2 : mDc (.dt [] []) itemsL (mCall (G HasC.c (k + 2) .p_pairs_of) (mCons (mVar 1) mNil)) (tgName 6) mYes (mVar 6) (mC (.int 0)) [6] [some (.lst [cD n ts]), some (.int n), none, none, none, none, none] [cup a b] = some (gD (allP n) fun _ => 0, [cup a b]) := by
    have f : mCall (G HasC.c (k + 2) .p_pairs_of) (mCons (mVar 1) mNil) [some (.lst [cD n ts]), some (.int n), none, none, none, none, none] [cup a b] = some (.lst ((allP n).map pD), [cup a b]) := by
      simp only [mCall, mCons, mNil, mVar, List.getElem?_cons_succ, List.getElem?_cons_zero, pr]
    unfold mDc
    rw [f]
    exact dc
  obtain ⟨f5, lp⟩ := bo_loop (.lst [cD n ts]) n n9 a b (some (cD n ts)) none ts none (fun _ => 0) (fun p hp => mem_allP.mpr (c.ok p hp)) nd fun _ _ => rfl
  have eg : (fun p => if p ∈ ts then 1 else (fun _ => 0 : Int × Int → Int) p) = tG ts := by
    funext p
    unfold tG b2i
    by_cases h : p ∈ ts
    · rw [if_pos h, decide_eq_true h]
      rfl
    · rw [if_neg h, decide_eq_false h]
      rfl
  rw [eg] at lp
  have s3 : mForE (mCons (mVar 0) mNil) (tgTup 2 (tgCons (tgName 3) (tgCons (tgName 4) tgNil))) (mFor itemsT (mOp oIx (mVar 4) (mC (.int 1))) (tgName 5) boB) (bo (.lst [cD n ts]) n none none none none) [cup a b, gD (allP n) fun _ => 0] =
      some (.nx (bo (.lst [cD n ts]) n (some (.int 0)) (some (cD n ts)) f5 none), [cup a b, gD (allP n) (tG ts)]) := by
    have f : mCons (mVar 0) mNil (bo (.lst [cD n ts]) n none none none none) [cup a b, gD (allP n) fun _ => 0] = some ([.lst [cD n ts]], [cup a b, gD (allP n) fun _ => 0]) := rfl
    have inner : mFor itemsT (mOp oIx (mVar 4) (mC (.int 1))) (tgName 5) boB (bo (.lst [cD n ts]) n (some (.int 0)) (some (cD n ts)) none none) [cup a b, gD (allP n) fun _ => 0] = some (.nx (bo (.lst [cD n ts]) n (some (.int 0)) (some (cD n ts)) f5 none), [cup a b, gD (allP n) (tG ts)]) := by
      have g : mOp oIx (mVar 4) (mC (.int 1)) (bo (.lst [cD n ts]) n (some (.int 0)) (some (cD n ts)) none none) [cup a b, gD (allP n) fun _ => 0] = some (.tup (ts.map pD), [cup a b, gD (allP n) fun _ => 0]) := by
        simp only [bo, mOp, mVar, mC, List.getElem?_cons_succ, List.getElem?_cons_zero, i2]
      unfold mFor
      rw [g]
      exact lp
    unfold mForE
    rw [f]
    show forD _ _ [.tup [.int ((0 : Nat) : Int), cD n ts]] _ _ = _
    rw [forD]
    have tg : tgTup 2 (tgCons (tgName 3) (tgCons (tgName 4) tgNil)) (.tup [.int ((0 : Nat) : Int), cD n ts]) (bo (.lst [cD n ts]) n none none none none) = some (bo (.lst [cD n ts]) n (some (.int 0)) (some (cD n ts)) none none) := rfl
    rw [tg]
    dsimp only
    rw [inner]
    rfl
  have hmk : ∀ M, G HasC.c (k + 2) .mk_Bundle [.int n, .int 1, .mu 1] M = some (.ins HasC.c ["people", "full", "ties"] [.int n, .int 1, .mu 1], M) := fun _ => rfl
  have s4 : mRet (mCall (G HasC.c (k + 2) .mk_Bundle) (mCons (mVar 1) (mCons (mOp oSub (mOp oShl (mC (.int 1)) (mFn oLen (mCons (mVar 0) mNil))) (mC (.int 1))) (mCons (mVar 2) mNil)))) (bo (.lst [cD n ts]) n (some (.int 0)) (some (cD n ts)) f5 none) [cup a b, gD (allP n) (tG ts)] =
      some (.rt (.ins HasC.c ["people", "full", "ties"] [.int n, .int 1, .mu 1]), [cup a b, gD (allP n) (tG ts)]) := by
    have ol : ∀ M, oLen M [.lst [cD n ts]] = some (.int 1) := fun _ => rfl
    have os : ∀ M, oShl M (.int 1) (.int 1) = some (.int 2) := fun _ => rfl
    have ou : ∀ M, oSub M (.int 2) (.int 1) = some (.int 1) := fun _ => rfl
    simp only [mRet, mCall, mCons, mNil, mOp, mFn, mVar, mC, bo, List.getElem?_cons_succ, List.getElem?_cons_zero, ol, os, ou, hmk]
  have all : mNew 2 (mDc (.dt [] []) itemsL (mCall (G HasC.c (k + 2) .p_pairs_of) (mCons (mVar 1) mNil)) (tgName 6) mYes (mVar 6) (mC (.int 0)) [6]) (mSeq (mForE (mCons (mVar 0) mNil) (tgTup 2 (tgCons (tgName 3) (tgCons (tgName 4) tgNil))) (mFor itemsT (mOp oIx (mVar 4) (mC (.int 1))) (tgName 5) boB))
      (mRet (mCall (G HasC.c (k + 2) .mk_Bundle) (mCons (mVar 1) (mCons (mOp oSub (mOp oShl (mC (.int 1)) (mFn oLen (mCons (mVar 0) mNil))) (mC (.int 1))) (mCons (mVar 2) mNil)))))) [some (.lst [cD n ts]), some (.int n), none, none, none, none, none] [cup a b] = some (.rt (bD n (tG ts)), [cup a b]) := by
    unfold mNew
    rw [s2]
    show (match mSeq _ _ (bo (.lst [cD n ts]) n none none none none) [cup a b, gD (allP n) fun _ => 0] with
      | some (Out.rt v, M2) => match M2[1]? with
        | some o => if (NL.clean 1 o && (M2.take 1).all (NL.clean 1)) = true then some (Out.rt (NL.told 1 o v), M2.take 1) else none
        | none => none
      | _ => none) = _
    unfold mSeq
    rw [s3]
    simp only []
    rw [s4]
    show (if (NL.clean 1 (gD (allP n) (tG ts)) && ([cup a b] : List D).all (NL.clean 1)) = true then _ else none) = _
    rw [if_pos (by rw [gD_clean]; rfl)]
    rfl
  unfold mFun
  rw [st]
  unfold B_p_bundle_of
  show (match mSeq _ _ _ _ with | some (Out.rt d, M1) => some (d, M1) | some (Out.nx _, M1) => some (D.non, M1) | _ => none) = _
  unfold mSeq
  rw [s1]
  simp only []
  have all' := all
  unfold mSeq boB at all'
  rw [all']
end MT

namespace MT
open PySem PySem.Spec PyProof.Rows L2 NL
variable [HasC]
/-! ### the company in a bundle -/
theorem range_sel {α β : Type} (d : α) {l : List α} {c' : Nat → Bool} {F : Nat → β} (c : α → Bool) (f : α → β) (h : ∀ j, j < l.length → c' j = c (l.getD j d) ∧ F j = f (l.getD j d)) : ((List.range l.length).filter c').map F = (l.filter c).map f := by
  have e : l = (List.range l.length).map fun j => l.getD j d := by
    refine List.ext_getElem (by simp) fun j h1 h2 => ?_
    simp [List.getD_eq_getElem?_getD, List.getElem?_eq_getElem h1]
  have r : (l.filter c).map f = ((List.range l.length).filter fun j => c (l.getD j d)).map fun j => f (l.getD j d) := by
    conv => lhs; rw [e]
    rw [List.filter_map, List.map_map]
    rfl
  rw [r]
  have e1 : (List.range l.length).filter c' = (List.range l.length).filter fun j => c (l.getD j d) := List.filter_congr fun j hj => (h j (List.mem_range.mp hj)).1
  rw [e1]
  refine List.map_congr_left fun j hj => (h j ?_).2
  exact List.mem_range.mp (List.mem_filter.mp hj).1
theorem bitS_b (b : Bool) : bitS 0 (b2i b) = b := by cases b <;> decide +kernel
theorem intsD_map : ∀ is : List Int, intsD (is.map D.int) = some is
  | [] => rfl
  | i :: is => by
    show (match intsD (is.map D.int) with | some js => some (i :: js) | none => none) = _
    rw [intsD_map is]
theorem held_bits (l : List (Int × Int)) (c : Int × Int → Bool) : heldK (l.map kv) (l.map fun p => b2i (c p)) 0 = (l.filter c).map pD := by
  unfold heldK
  rw [List.length_map]
  refine range_sel (0, 0) c pD fun j hj => ?_
  have e1 : l.getD j (0, 0) = l[j] := by
    rw [List.getD_eq_getElem?_getD, List.getElem?_eq_getElem hj]
    rfl
  have e2 : (l.map kv).getD j [] = kv l[j] := by
    rw [List.getD_eq_getElem?_getD, List.getElem?_map, List.getElem?_eq_getElem hj]
    rfl
  rw [e1]
  refine ⟨?_, ?_⟩
  · unfold bitK
    rw [e2, List.map_map]
    have := look_map (g := fun p => b2i (c p)) (List.getElem_mem hj)
    show (match look (l.map kv) (l.map fun p => D.int (b2i (c p))) (kv l[j]) with | some (.int i) => bitS 0 i | _ => false) = _
    rw [this]
    exact bitS_b _
  · show keyT ((l.map kv).getD j []) = _
    rw [e2]
    rfl
theorem g_company_in (k n : Nat) (n9 : n ≤ 9) (c : Int × Int → Bool) (M : MM) : G HasC.c (k + 1) .p_company_in [bD n fun p => b2i (c p), .int 0] M = some (cD n ((allP n).filter c), M) := by
  show mFun 3 (B_p_company_in HasC.c (G HasC.c k)) [bD n fun p => b2i (c p), .int 0] M = _
  have st : startD 3 [bD n fun p => b2i (c p), .int 0] = [some (bD n fun p => b2i (c p)), some (.int 0), none] := rfl
  have hp : mFld HasC.c "people" (mVar 0) [some (bD n fun p => b2i (c p)), some (.int 0), none] M = some (.int n, M) := m_fld rfl l_people
  have hh : mHeld 0 1 HasC.c "ties" [some (bD n fun p => b2i (c p)), some (.int 0), none] M = some (.tup (((allP n).filter c).map pD), M) := by
    have e0 : ([some (bD n fun p => b2i (c p)), some (.int 0), none] : En)[0]? = some (some (bD n fun p => b2i (c p))) := rfl
    have e1 : ([some (bD n fun p => b2i (c p)), some (.int 0), none] : En)[1]? = some (some (.int 0)) := rfl
    have is : intsD ((allP n).map fun p => D.int (b2i (c p))) = some ((allP n).map fun p => b2i (c p)) := by
      have := intsD_map ((allP n).map fun p => b2i (c p))
      rw [List.map_map] at this
      exact this
    have few : ((allP n).map kv).length ≤ 1000 := by
      rw [List.length_map]
      exact Nat.le_trans (allP_len n n9) (by decide)
    unfold mHeld
    rw [e0, e1]
    show (if HasC.c = HasC.c ∧ (0 : Int) ≤ 0 then match look (["people", "full", "ties"] : List Str) [D.int n, .int 1, gD (allP n) fun p => b2i (c p)] "ties" with
      | some (.dt ks vs) => match intsD vs with
        | some is => if ks.length ≤ 1000 then some (D.tup (heldK ks is 0), M) else none
        | none => none
      | _ => none
    else none) = _
    rw [if_pos ⟨rfl, by decide⟩, l_ties]
    show (match intsD ((allP n).map fun p => D.int (b2i (c p))) with
        | some is => if ((allP n).map kv).length ≤ 1000 then some (D.tup (heldK ((allP n).map kv) is 0), M) else none
        | none => none) = _
    rw [is]
    simp only []
    rw [if_pos few, held_bits]
  unfold mFun
  rw [st]
  unfold B_p_company_in
  simp only [mRet, mTup, mCons, mNil, hp, hh]
  rfl
/-! ### a method called -/
theorem m_meth {r : En} {i n : Nat} {g : Int × Int → Int} {m : Str} {gc : FC} {fa : FA} {as : List D} {M M2 : MM} (h : r[i]? = some (some (bD n g))) (ha : fa r M = some (as, M2)) (hm : m ∉ (["people", "full", "ties"] : List Str)) : mMeth HasC.c m gc (mVar i) fa r M = gc (bD n g :: as) M2 := by
  unfold mMeth mVar
  rw [h]
  show (if HasC.c = HasC.c ∧ m ∉ (["people", "full", "ties"] : List Str) then match fa r M with
      | some (as, M2) => gc (bD n g :: as) M2
      | none => none
    else none) = _
  rw [if_pos ⟨rfl, hm⟩, ha]
theorem bD_congr {n : Nat} {g h : Int × Int → Int} (e : ∀ p, g p = h p) : bD n g = bD n h := by
  have : g = h := funext e
  rw [this]
/-! ### a tie -/
def tieC (w : Str) (b : Bool) : Bool := if w = "part" then false else if w = "turn" then !b else true
theorem t_know (b : Bool) : tieC "know" b = true := by
  unfold tieC
  rw [if_neg (by decide), if_neg (by decide)]
theorem t_part (b : Bool) : tieC "part" b = false := by
  unfold tieC
  rw [if_pos rfl]
theorem t_turn (b : Bool) : tieC "turn" b = !b := by
  unfold tieC
  rw [if_neg (by decide), if_pos rfl]
theorem g_tie_done (k n : Nat) (n9 : n ≤ 9) (c : Int × Int → Bool) (i j : Int) (w : Str) (hw : w = "know" ∨ w = "part" ∨ w = "turn") (a b : Int) (h : prD i j ∈ allP n) :
    G HasC.c (k + 4) .p_tie_done [bD n fun p => b2i (c p), .int i, .int j, .str w] [cup a b] = some (bD n fun p => b2i (if p = prD i j then tieC w (c p) else c p), [cup a b]) := by
  show mFun 5 (B_p_tie_done HasC.c (G HasC.c (k + 3))) _ _ = _
  have st : startD 5 [bD n fun p => b2i (c p), .int i, .int j, .str w] = [some (bD n fun p => b2i (c p)), some (.int i), some (.int j), some (.str w), none] := rfl
  have kn := g_knowing (k + 1) n (fun p => b2i (c p)) i j [cup a b] h
  have pr := g_pair_of (k + 2) i j [cup a b]
  have wt : ∀ v : Int, G HasC.c (k + 3) .Bundle_with_ties [bD n fun p => b2i (c p), gD [prD i j] fun _ => v] [cup a b] = some (bD n (wT [prD i j] (fun _ => v) fun p => b2i (c p)), [cup a b]) := fun v => g_with_ties k n n9 _ _ [prD i j] (fun _ => v) _ (.inl rfl)
  have fl : ∀ x : Option D, mFld HasC.c "full" (mVar 0) [some (bD n fun p => b2i (c p)), some (.int i), some (.int j), some (.str w), x] [cup a b] = some (.int 1, [cup a b]) := fun x => m_fld rfl l_full
  have disp : ∀ v : Int, mDisp (.dt [] []) [((mCall (G HasC.c (k + 3) .p_pair_of) (mCons (mVar 1) (mCons (mVar 2) mNil))), (mVar 4))] [some (bD n fun p => b2i (c p)), some (.int i), some (.int j), some (.str w), some (.int v)] [cup a b] = some (gD [prD i j] fun _ => v, [cup a b]) := fun v => by
    have p1 : mPairs [((mCall (G HasC.c (k + 3) .p_pair_of) (mCons (mVar 1) (mCons (mVar 2) mNil))), (mVar 4))] [some (bD n fun p => b2i (c p)), some (.int i), some (.int j), some (.str w), some (.int v)] [cup a b] = some ([(pD (prD i j), .int v)], [cup a b]) := by
      simp only [mPairs, mCall, mCons, mNil, mVar, List.getElem?_cons_succ, List.getElem?_cons_zero, pr]
    have p2 : stO (.dt [] []) [(pD (prD i j), .int v)] = some (gD [prD i j] fun _ => v) := by
      have := putO_new (l := []) (g := fun _ => v) (p := prD i j) (i := v) (by simp) (by simp) rfl
      show (match putO (gD [] fun _ => v) (pD (prD i j)) (.int v) with | some o' => stO o' [] | none => none) = _
      rw [this]
      rfl
    unfold mDisp
    rw [p1]
    simp only []
    rw [p2]
  have last : ∀ v : Int, mRet (mMeth HasC.c "with_ties" (G HasC.c (k + 3) .Bundle_with_ties) (mVar 0) (mCons (mDisp (.dt [] []) [((mCall (G HasC.c (k + 3) .p_pair_of) (mCons (mVar 1) (mCons (mVar 2) mNil))), (mVar 4))]) mNil)) [some (bD n fun p => b2i (c p)), some (.int i), some (.int j), some (.str w), some (.int v)] [cup a b] =
      some (.rt (bD n (wT [prD i j] (fun _ => v) fun p => b2i (c p))), [cup a b]) := fun v => by
    have ha : mCons (mDisp (.dt [] []) [((mCall (G HasC.c (k + 3) .p_pair_of) (mCons (mVar 1) (mCons (mVar 2) mNil))), (mVar 4))]) mNil [some (bD n fun p => b2i (c p)), some (.int i), some (.int j), some (.str w), some (.int v)] [cup a b] = some ([gD [prD i j] fun _ => v], [cup a b]) := by
      simp only [mCons, mNil, disp v]
    have := m_meth (i := 0) (n := n) (g := fun p => b2i (c p)) (m := "with_ties") (gc := G HasC.c (k + 3) .Bundle_with_ties) rfl ha (by decide)
    unfold mRet
    rw [this, wt v]
  have kno : ∀ x : Option D, mMeth HasC.c "knowing" (G HasC.c (k + 3) .Bundle_knowing) (mVar 0) (mCons (mVar 1) (mCons (mVar 2) mNil)) [some (bD n fun p => b2i (c p)), some (.int i), some (.int j), some (.str w), x] [cup a b] = some (.int (b2i (c (prD i j))), [cup a b]) := fun x => by
    have := m_meth (i := 0) (n := n) (g := fun p => b2i (c p)) (m := "knowing") (gc := G HasC.c (k + 3) .Bundle_knowing) (fa := mCons (mVar 1) (mCons (mVar 2) mNil)) (r := [some (bD n fun p => b2i (c p)), some (.int i), some (.int j), some (.str w), x]) (M := [cup a b]) (as := [.int i, .int j]) (M2 := [cup a b]) rfl rfl (by decide)
    rw [this]
    exact kn
  have fin : ∀ v : Int, v = b2i (tieC w (c (prD i j))) → bD n (wT [prD i j] (fun _ => v) fun p => b2i (c p)) = bD n fun p => b2i (if p = prD i j then tieC w (c p) else c p) := fun v hv => bD_congr fun p => by
    unfold wT
    by_cases e : p = prD i j
    · rw [if_pos (by rw [e]; simp), if_pos e, hv, e]
    · rw [if_neg (by simpa using e), if_neg e]
  unfold mFun
  rw [st]
  unfold B_p_tie_done
  have s1 : mAsg (mFld HasC.c "full" (mVar 0)) (tgName 4) [some (bD n fun p => b2i (c p)), some (.int i), some (.int j), some (.str w), none] [cup a b] = some (.nx [some (bD n fun p => b2i (c p)), some (.int i), some (.int j), some (.str w), some (.int 1)], [cup a b]) := by
    unfold mAsg
    rw [fl none]
    rfl
  have q1 : ∀ M, oEq M (.str w) (.str "part") = some (.bl (w == "part")) := fun _ => rfl
  have q2 : ∀ M, oEq M (.str w) (.str "turn") = some (.bl (w == "turn")) := fun _ => rfl
  unfold mSeq
  rw [s1]
  simp only []
  rcases hw with rfl | rfl | rfl
  · have r1 : (("know" : Str) == "part") = false := by decide
    have r2 : (("know" : Str) == "turn") = false := by decide
    simp only [mIfS, mB, mOp, mVar, mC, mSkip, List.getElem?_cons_succ, List.getElem?_cons_zero, q1, q2, r1, r2]
    rw [last 1, fin 1 (by rw [t_know]; rfl)]
  · have r1 : (("part" : Str) == "part") = true := by decide
    have r2 : (("part" : Str) == "turn") = false := by decide
    simp only [mIfS, mB, mOp, mAsg, mVar, mC, mSkip, tgName, List.getElem?_cons_succ, List.getElem?_cons_zero, List.set_cons_succ, List.set_cons_zero, q1, q2, r1, r2]
    rw [last 0, fin 0 (by rw [t_part]; rfl)]
  · have r1 : (("turn" : Str) == "part") = false := by decide
    have r2 : (("turn" : Str) == "turn") = true := by decide
    have x1 : ∀ M, oBxor M (.int 1) (.int (b2i (c (prD i j)))) = some (.int (b2i (!c (prD i j)))) := fun _ => by
      cases c (prD i j) <;> rfl
    have as : mAsg (mOp oBxor (mFld HasC.c "full" (mVar 0)) (mMeth HasC.c "knowing" (G HasC.c (k + 3) .Bundle_knowing) (mVar 0) (mCons (mVar 1) (mCons (mVar 2) mNil)))) (tgName 4) [some (bD n fun p => b2i (c p)), some (.int i), some (.int j), some (.str "turn"), some (.int 1)] [cup a b] =
        some (.nx [some (bD n fun p => b2i (c p)), some (.int i), some (.int j), some (.str "turn"), some (.int (b2i (!c (prD i j))))], [cup a b]) := by
      simp only [mAsg, mOp, fl, kno, x1]
      rfl
    simp only [mIfS, mB, mOp, mVar, mC, mSkip, List.getElem?_cons_succ, List.getElem?_cons_zero, q1, q2, r1, r2]
    rw [as]
    simp only []
    rw [last _, fin _ (by rw [t_turn])]
end MT

namespace MT
open PySem PySem.Spec PyProof.Rows L2 NL
variable [HasC]
/-! ### a "pairs" -/
theorem mIfS_true' {c : FB} {f g : FS} {r : En} {M M1 : MM} (h : c r M = some (true, M1)) : mIfS c f g r M = f r M1 := by
  unfold mIfS
  rw [h]
theorem mSeq_nx' {f g : FS} {r r1 : En} {M M1 : MM} (h : f r M = some (.nx r1, M1)) : mSeq f g r M = g r1 M1 := by
  unfold mSeq
  rw [h]
theorem oNe_ii {M : MM} {a b : Int} : oNe M (.int a) (.int b) = some (.bl (!(a == b))) := rfl
theorem prD_in {n : Nat} {i j : Int} (h1 : 0 ≤ i) (h2 : i < n) (h3 : 0 ≤ j) (h4 : j < n) (h : i ≠ j) : prD i j ∈ allP n := by
  refine mem_allP.mpr ?_
  unfold okP prD lo2 hi2
  by_cases e : i < j
  · rw [if_pos e, if_pos e]
    omega
  · rw [if_neg e, if_neg e]
    omega
theorem prD_self {p : Int × Int} (h : p.1 < p.2) : prD p.1 p.2 = p := by
  unfold prD lo2 hi2
  rw [if_pos h, if_pos h]
def ansD : List Bool → D := fun as => .tup (as.map fun a => .int (b2i a))
/-- what comes of a pair that the doer is not of -/
def pairC (as : List Bool) (w f s : Bool) : Bool := as.getD ((if w then 3 else 0) + (b2i f + b2i s).toNat) false
theorem ans6' (k : Nat) (as : List Bool) (h : as.length = 6) (w f s : Bool) (M : MM) : G HasC.c (k + 1) .p_answered [ansD as, .tup [.int (b2i (!w)), .int (b2i w)], .tup [.int (b2i (!(f || s))), .int (b2i (xor f s)), .int (b2i (f && s))]] M = some (.int (b2i (pairC as w f s)), M) := by
  match as, h with
  | [a0, a1, a2, a3, a4, a5], _ =>
    have := ans6 k w f s a0 a1 a2 a3 a4 a5 M
    refine this.trans ?_
    cases w <;> cases f <;> cases s <;> rfl
def pdE (n : Nat) (c : Int × Int → Bool) (d : Int) (an : D) (e4 e5 e6 e7 e8 e9 : Option D) : En := [some (bD n fun p => b2i (c p)), some (.int d), some an, some (.mu 1), e4, e5, e6, e7, e8, e9]
def kn (k : Nat) [HasC] (i j : Nat) : FE := mMeth HasC.c "knowing" (G HasC.c (k + 3) .Bundle_knowing) (mVar 0) (mCons (mVar i) (mCons (mVar j) mNil))
theorem kn_ok (k n : Nat) (c : Int × Int → Bool) {r : En} {i j : Nat} {x y : Int} {M : MM} (h0 : r[0]? = some (some (bD n fun p => b2i (c p)))) (h1 : r[i]? = some (some (.int x))) (h2 : r[j]? = some (some (.int y))) (h : prD x y ∈ allP n) : kn k i j r M = some (.int (b2i (c (prD x y))), M) := by
  have ha : mCons (mVar i) (mCons (mVar j) mNil) r M = some ([.int x, .int y], M) := by
    simp only [mCons, mNil, mVar, h1, h2]
  unfold kn
  rw [m_meth h0 ha (by decide)]
  exact g_knowing (k + 1) n (fun p => b2i (c p)) x y M h
theorem bx (f s : Bool) (M : MM) : oBor M (.int (b2i f)) (.int (b2i s)) = some (.int (b2i (f || s))) := by cases f <;> cases s <;> rfl
theorem bxx (f s : Bool) (M : MM) : oBxor M (.int (b2i f)) (.int (b2i s)) = some (.int (b2i (xor f s))) := by cases f <;> cases s <;> rfl
theorem ba (f s : Bool) (M : MM) : oBand M (.int (b2i f)) (.int (b2i s)) = some (.int (b2i (f && s))) := by cases f <;> cases s <;> rfl
theorem b1x (f : Bool) (M : MM) : oBxor M (.int 1) (.int (b2i f)) = some (.int (b2i (!f))) := by cases f <;> rfl
def pdB (k : Nat) [HasC] : FS := mIfS (mB (mAnd (mOp oNe (mVar 1) (mVar 4)) (mOp oNe (mVar 1) (mVar 5)))) (mSeq (mAsg (kn k 4 5) (tgName 6)) (mSeq (mAsg (kn k 1 4) (tgName 7)) (mSeq (mAsg (kn k 1 5) (tgName 8))
  (mSeq (mAsg (mTup (mCons (mOp oBxor (mFld HasC.c "full" (mVar 0)) (mOp oBor (mVar 7) (mVar 8))) (mCons (mOp oBxor (mVar 7) (mVar 8)) (mCons (mOp oBand (mVar 7) (mVar 8)) mNil)))) (tgName 9))
    (mPut (mCall (G HasC.c (k + 3) .p_answered) (mCons (mVar 2) (mCons (mTup (mCons (mOp oBxor (mFld HasC.c "full" (mVar 0)) (mVar 6)) (mCons (mVar 6) mNil))) (mCons (mVar 9) mNil)))) (mVar 3) (mTup (mCons (mVar 4) (mCons (mVar 5) mNil)))))))) mSkip
theorem pd_eq (k : Nat) : B_p_pairs_done HasC.c (G HasC.c (k + 3)) = mNew 3 (mNewD (.dt [] [])) (mSeq (mForK 0 HasC.c "ties" (tgTup 2 (tgCons (tgName 4) (tgCons (tgName 5) tgNil))) (pdB k)) (mRet (mMeth HasC.c "with_ties" (G HasC.c (k + 3) .Bundle_with_ties) (mVar 0) (mCons (mVar 3) mNil)))) := rfl
def pC (d : Int) (as : List Bool) (c : Int × Int → Bool) (p : Int × Int) : Bool := pairC as (c p) (c (prD d p.1)) (c (prD d p.2))
def offD (d : Int) (p : Int × Int) : Bool := !(d == p.1) && !(d == p.2)
theorem pd_step (k n : Nat) (n9 : n ≤ 9) (c : Int × Int → Bool) (d : Int) (d0 : 0 ≤ d) (dn : d < n) (as : List Bool) (hl : as.length = 6) (x : D) (l : List (Int × Int)) (hll : l.length ≤ 1000) (p : Int × Int) (hp : p ∈ allP n) (no : p ∉ l) (e6 e7 e8 e9 : Option D) :
    ∃ f6 f7 f8 f9 : Option D, pdB k (pdE n c d (ansD as) (some (.int p.1)) (some (.int p.2)) e6 e7 e8 e9) [x, gD l fun q => b2i (pC d as c q)] =
      some (.nx (pdE n c d (ansD as) (some (.int p.1)) (some (.int p.2)) f6 f7 f8 f9), [x, gD (if offD d p = true then l ++ [p] else l) fun q => b2i (pC d as c q)]) := by
  obtain ⟨o1, o2, o3⟩ := mem_allP.mp hp
  cases ho : offD d p with
  | false =>
    refine ⟨e6, e7, e8, e9, ?_⟩
    have q : mB (mAnd (mOp oNe (mVar 1) (mVar 4)) (mOp oNe (mVar 1) (mVar 5))) (pdE n c d (ansD as) (some (.int p.1)) (some (.int p.2)) e6 e7 e8 e9) [x, gD l fun q => b2i (pC d as c q)] = some (false, [x, gD l fun q => b2i (pC d as c q)]) := by
      generalize gD l _ = gg
      generalize ansD as = an
      unfold offD at ho
      cases h1 : (d == p.1) with
      | true => simp only [mB, mAnd, mOp, mVar, pdE, List.getElem?_cons_succ, List.getElem?_cons_zero, oNe_ii, h1, Bool.not_true]
      | false =>
        rw [h1] at ho
        have h2 : (d == p.2) = true := by simpa using ho
        simp only [mB, mAnd, mOp, mVar, pdE, List.getElem?_cons_succ, List.getElem?_cons_zero, oNe_ii, h1, h2, Bool.not_true, Bool.not_false]
    unfold pdB mIfS
    rw [q]
    rfl
  | true =>
    have hd1 : ¬ d = p.1 := by
      unfold offD at ho
      simp at ho
      exact ho.1
    have hd2 : ¬ d = p.2 := by
      unfold offD at ho
      simp at ho
      exact ho.2
    have q : mB (mAnd (mOp oNe (mVar 1) (mVar 4)) (mOp oNe (mVar 1) (mVar 5))) (pdE n c d (ansD as) (some (.int p.1)) (some (.int p.2)) e6 e7 e8 e9) [x, gD l fun q => b2i (pC d as c q)] = some (true, [x, gD l fun q => b2i (pC d as c q)]) := by
      generalize gD l _ = gg
      generalize ansD as = an
      have h1 : (d == p.1) = false := by simpa using hd1
      have h2 : (d == p.2) = false := by simpa using hd2
      simp only [mB, mAnd, mOp, mVar, pdE, List.getElem?_cons_succ, List.getElem?_cons_zero, oNe_ii, h1, h2, Bool.not_false]
    have k1 : ∀ x6 x7 x8 x9, kn k 4 5 (pdE n c d (ansD as) (some (.int p.1)) (some (.int p.2)) x6 x7 x8 x9) [x, gD l fun q => b2i (pC d as c q)] = some (.int (b2i (c p)), [x, gD l fun q => b2i (pC d as c q)]) := fun x6 x7 x8 x9 => by
      have := kn_ok k n c (r := pdE n c d (ansD as) (some (.int p.1)) (some (.int p.2)) x6 x7 x8 x9) (i := 4) (j := 5) (M := [x, gD l fun q => b2i (pC d as c q)]) rfl rfl rfl (by rw [prD_self o2]; exact hp)
      rw [prD_self o2] at this
      exact this
    have k2 : ∀ x6 x7 x8 x9, kn k 1 4 (pdE n c d (ansD as) (some (.int p.1)) (some (.int p.2)) x6 x7 x8 x9) [x, gD l fun q => b2i (pC d as c q)] = some (.int (b2i (c (prD d p.1))), [x, gD l fun q => b2i (pC d as c q)]) := fun x6 x7 x8 x9 =>
      kn_ok k n c rfl rfl rfl (prD_in d0 dn o1 (by omega) hd1)
    have k3 : ∀ x6 x7 x8 x9, kn k 1 5 (pdE n c d (ansD as) (some (.int p.1)) (some (.int p.2)) x6 x7 x8 x9) [x, gD l fun q => b2i (pC d as c q)] = some (.int (b2i (c (prD d p.2))), [x, gD l fun q => b2i (pC d as c q)]) := fun x6 x7 x8 x9 =>
      kn_ok k n c rfl rfl rfl (prD_in d0 dn (by omega) o3 hd2)
    have fl : ∀ x6 x7 x8 x9, mFld HasC.c "full" (mVar 0) (pdE n c d (ansD as) (some (.int p.1)) (some (.int p.2)) x6 x7 x8 x9) [x, gD l fun q => b2i (pC d as c q)] = some (.int 1, [x, gD l fun q => b2i (pC d as c q)]) := fun _ _ _ _ => m_fld rfl l_full
    have an := ans6' (k + 2) as hl (c p) (c (prD d p.1)) (c (prD d p.2)) [x, gD l fun q => b2i (pC d as c q)]
    have put := putO_new (l := l) (g := fun q => b2i (pC d as c q)) (p := p) (i := b2i (pairC as (c p) (c (prD d p.1)) (c (prD d p.2)))) no hll rfl
    refine ⟨some (.int (b2i (c p))), some (.int (b2i (c (prD d p.1)))), some (.int (b2i (c (prD d p.2)))), some (.tup [.int (b2i (!(c (prD d p.1) || c (prD d p.2)))), .int (b2i (xor (c (prD d p.1)) (c (prD d p.2)))), .int (b2i (c (prD d p.1) && c (prD d p.2)))]), ?_⟩
    rw [if_pos rfl]
    unfold pdB
    rw [mIfS_true' q]
    have s1 : mAsg (kn k 4 5) (tgName 6) (pdE n c d (ansD as) (some (.int p.1)) (some (.int p.2)) e6 e7 e8 e9) [x, gD l fun q => b2i (pC d as c q)] = some (.nx (pdE n c d (ansD as) (some (.int p.1)) (some (.int p.2)) (some (.int (b2i (c p)))) e7 e8 e9), [x, gD l fun q => b2i (pC d as c q)]) := by
      unfold mAsg
      rw [k1]
      rfl
    have s2 : ∀ x6, mAsg (kn k 1 4) (tgName 7) (pdE n c d (ansD as) (some (.int p.1)) (some (.int p.2)) x6 e7 e8 e9) [x, gD l fun q => b2i (pC d as c q)] = some (.nx (pdE n c d (ansD as) (some (.int p.1)) (some (.int p.2)) x6 (some (.int (b2i (c (prD d p.1))))) e8 e9), [x, gD l fun q => b2i (pC d as c q)]) := fun x6 => by
      unfold mAsg
      rw [k2]
      rfl
    have s3 : ∀ x6 x7, mAsg (kn k 1 5) (tgName 8) (pdE n c d (ansD as) (some (.int p.1)) (some (.int p.2)) x6 x7 e8 e9) [x, gD l fun q => b2i (pC d as c q)] = some (.nx (pdE n c d (ansD as) (some (.int p.1)) (some (.int p.2)) x6 x7 (some (.int (b2i (c (prD d p.2))))) e9), [x, gD l fun q => b2i (pC d as c q)]) := fun x6 x7 => by
      unfold mAsg
      rw [k3]
      rfl
    rw [mSeq_nx' s1, mSeq_nx' (s2 _), mSeq_nx' (s3 _ _)]
    have e2 : (match (.int p.1 : D), (.int p.2 : D) with | .int a, .int b => D.tup [.int a, .int b] | _, _ => .non) = pD p := rfl
    have pp : (D.tup [.int p.1, .int p.2]) = pD p := rfl
    have put' : ∀ M, putO (gD l fun q => b2i (pC d as c q)) (.tup [.int p.1, .int p.2]) (.int (b2i (pairC as (c p) (c (prD d p.1)) (c (prD d p.2))))) = some (gD (l ++ [p]) fun q => b2i (pC d as c q)) ∨ M = (0 : Nat) := fun _ => .inl (by rw [pp]; exact put)
    have put2 := (put' 1).resolve_right (by decide)
    have fl' := fl (some (.int (b2i (c p)))) (some (.int (b2i (c (prD d p.1))))) (some (.int (b2i (c (prD d p.2)))))
    generalize (gD (l ++ [p]) fun q => b2i (pC d as c q)) = gg' at *
    generalize (gD l fun q => b2i (pC d as c q)) = gg at *
    generalize ansD as = aa at *
    generalize c p = w0 at *
    generalize c (prD d p.1) = f0 at *
    generalize c (prD d p.2) = g0 at *
    have s4 : mAsg (mTup (mCons (mOp oBxor (mFld HasC.c "full" (mVar 0)) (mOp oBor (mVar 7) (mVar 8))) (mCons (mOp oBxor (mVar 7) (mVar 8)) (mCons (mOp oBand (mVar 7) (mVar 8)) mNil)))) (tgName 9) (pdE n c d aa (some (.int p.1)) (some (.int p.2)) (some (.int (b2i w0))) (some (.int (b2i f0))) (some (.int (b2i g0))) e9) [x, gg] =
        some (.nx (pdE n c d aa (some (.int p.1)) (some (.int p.2)) (some (.int (b2i w0))) (some (.int (b2i f0))) (some (.int (b2i g0))) (some (.tup [.int (b2i (!(f0 || g0))), .int (b2i (xor f0 g0)), .int (b2i (f0 && g0))]))), [x, gg]) := by
      have v7 : ∀ y, mVar 7 (pdE n c d aa (some (.int p.1)) (some (.int p.2)) (some (.int (b2i w0))) (some (.int (b2i f0))) (some (.int (b2i g0))) y) [x, gg] = some (.int (b2i f0), [x, gg]) := fun _ => rfl
      have v8 : ∀ y, mVar 8 (pdE n c d aa (some (.int p.1)) (some (.int p.2)) (some (.int (b2i w0))) (some (.int (b2i f0))) (some (.int (b2i g0))) y) [x, gg] = some (.int (b2i g0), [x, gg]) := fun _ => rfl
      simp only [mAsg, mTup, mCons, mNil, mOp, fl' e9, v7, v8, bx, bxx, ba, b1x]
      rfl
    rw [mSeq_nx' s4]
    have v6 : ∀ y, mVar 6 (pdE n c d aa (some (.int p.1)) (some (.int p.2)) (some (.int (b2i w0))) (some (.int (b2i f0))) (some (.int (b2i g0))) (some y)) [x, gg] = some (.int (b2i w0), [x, gg]) := fun _ => rfl
    have v2 : ∀ y, mVar 2 (pdE n c d aa (some (.int p.1)) (some (.int p.2)) (some (.int (b2i w0))) (some (.int (b2i f0))) (some (.int (b2i g0))) (some y)) [x, gg] = some (aa, [x, gg]) := fun _ => rfl
    have v9 : ∀ y, mVar 9 (pdE n c d aa (some (.int p.1)) (some (.int p.2)) (some (.int (b2i w0))) (some (.int (b2i f0))) (some (.int (b2i g0))) (some y)) [x, gg] = some (y, [x, gg]) := fun _ => rfl
    have v3 : ∀ y, mVar 3 (pdE n c d aa (some (.int p.1)) (some (.int p.2)) (some (.int (b2i w0))) (some (.int (b2i f0))) (some (.int (b2i g0))) (some y)) [x, gg] = some (.mu 1, [x, gg]) := fun _ => rfl
    have v4 : ∀ y, mVar 4 (pdE n c d aa (some (.int p.1)) (some (.int p.2)) (some (.int (b2i w0))) (some (.int (b2i f0))) (some (.int (b2i g0))) (some y)) [x, gg] = some (.int p.1, [x, gg]) := fun _ => rfl
    have v5 : ∀ y, mVar 5 (pdE n c d aa (some (.int p.1)) (some (.int p.2)) (some (.int (b2i w0))) (some (.int (b2i f0))) (some (.int (b2i g0))) (some y)) [x, gg] = some (.int p.2, [x, gg]) := fun _ => rfl
    simp only [mPut, mCall, mTup, mCons, mNil, mOp, fl', v2, v3, v4, v5, v6, v9, b1x, an, List.getElem?_cons_succ, List.getElem?_cons_zero, put2, List.set_cons_succ, List.set_cons_zero]
end MT

namespace MT
open PySem PySem.Spec PyProof.Rows L2 NL
variable [HasC]
theorem pd_loop (k n : Nat) (n9 : n ≤ 9) (c : Int × Int → Bool) (d : Int) (d0 : 0 ≤ d) (dn : d < n) (as : List Bool) (hl : as.length = 6) (x : D) : ∀ (ps l : List (Int × Int)), (∀ p ∈ ps, p ∈ allP n) → (∀ p ∈ ps, p ∉ l) → ps.Nodup → l.length + ps.length ≤ 1000 → ∀ e4 e5 e6 e7 e8 e9 : Option D, ∃ f4 f5 f6 f7 f8 f9 : Option D,
    forD (tgTup 2 (tgCons (tgName 4) (tgCons (tgName 5) tgNil))) (pdB k) (ps.map pD) (pdE n c d (ansD as) e4 e5 e6 e7 e8 e9) [x, gD l fun q => b2i (pC d as c q)] =
      some (.nx (pdE n c d (ansD as) f4 f5 f6 f7 f8 f9), [x, gD (l ++ ps.filter (offD d)) fun q => b2i (pC d as c q)])
  | [], l, _, _, _, _, e4, e5, e6, e7, e8, e9 => ⟨e4, e5, e6, e7, e8, e9, by
    rw [List.filter_nil, List.append_nil]
    rfl⟩
  | p :: ps, l, hm, no, nd, hll, e4, e5, e6, e7, e8, e9 => by
    obtain ⟨np, nd'⟩ := List.nodup_cons.mp nd
    have hp := hm p List.mem_cons_self
    have nop := no p List.mem_cons_self
    simp only [List.length_cons] at hll
    obtain ⟨g6, g7, g8, g9, st⟩ := pd_step k n n9 c d d0 dn as hl x l (by omega) p hp nop e6 e7 e8 e9
    obtain ⟨f4, f5, f6, f7, f8, f9, q⟩ := pd_loop k n n9 c d d0 dn as hl x ps (if offD d p = true then l ++ [p] else l) (fun y hy => hm y (List.mem_cons_of_mem _ hy)) (fun y hy => by
      have h1 := no y (List.mem_cons_of_mem _ hy)
      by_cases h : offD d p = true
      · rw [if_pos h]
        intro z
        rcases List.mem_append.mp z with z | z
        · exact h1 z
        · have : y = p := by simpa using z
          exact np (this ▸ hy)
      · rw [if_neg h]
        exact h1) nd' (by
      by_cases h : offD d p = true
      · rw [if_pos h, List.length_append, List.length_singleton]
        omega
      · rw [if_neg h]
        omega) (some (.int p.1)) (some (.int p.2)) g6 g7 g8 g9
    refine ⟨f4, f5, f6, f7, f8, f9, ?_⟩
    have e : l ++ (p :: ps).filter (offD d) = (if offD d p = true then l ++ [p] else l) ++ ps.filter (offD d) := by
      by_cases h : offD d p = true
      · rw [if_pos h, List.filter_cons_of_pos h]
        simp
      · rw [if_neg h, List.filter_cons_of_neg h]
    rw [e, ← q]
    show forD _ _ (pD p :: ps.map pD) _ _ = _
    rw [forD]
    have tg : tgTup 2 (tgCons (tgName 4) (tgCons (tgName 5) tgNil)) (pD p) (pdE n c d (ansD as) e4 e5 e6 e7 e8 e9) = some (pdE n c d (ansD as) (some (.int p.1)) (some (.int p.2)) e6 e7 e8 e9) := rfl
    rw [tg]
    dsimp only
    rw [st]
theorem tolds_is (o : D) (g : Int × Int → Int) : ∀ l : List (Int × Int), NL.tolds 1 o (l.map fun p => D.int (g p)) = l.map fun p => D.int (g p)
  | [] => rfl
  | p :: l => by
    show D.int (g p) :: NL.tolds 1 o (l.map fun p => D.int (g p)) = _
    rw [tolds_is o g l]
    rfl
theorem told_bD {n : Nat} {g : Int × Int → Int} {o : D} : NL.told 1 o (bD n g) = bD n g := by
  show D.ins HasC.c ["people", "full", "ties"] [.int n, .int 1, .dt ((allP n).map kv) (NL.tolds 1 o ((allP n).map fun p => D.int (g p)))] = _
  rw [tolds_is]
  rfl
/-- what comes of each pair by a "pairs" -/
def pairsC (d : Int) (as : List Bool) (c : Int × Int → Bool) (p : Int × Int) : Bool := if offD d p = true then pC d as c p else c p
theorem dtAt_bD {r : En} {n : Nat} {g : Int × Int → Int} (h : r[0]? = some (some (bD n g))) : dtAt 0 HasC.c "ties" r = some ((allP n).map kv) := by
  unfold dtAt
  rw [h]
  simp only [bD, if_true]
  rw [l_ties]
  rfl
theorem bD_on {n : Nat} {g h : Int × Int → Int} (e : ∀ p ∈ allP n, g p = h p) : bD n g = bD n h := by
  unfold bD gD
  have : (allP n).map (fun p => D.int (g p)) = (allP n).map fun p => D.int (h p) := List.map_congr_left fun p hp => by rw [e p hp]
  rw [this]
theorem g_pairs_done (k n : Nat) (n9 : n ≤ 9) (c : Int × Int → Bool) (d : Int) (d0 : 0 ≤ d) (dn : d < n) (as : List Bool) (hl : as.length = 6) (a b : Int) :
    G HasC.c (k + 4) .p_pairs_done [bD n fun p => b2i (c p), .int d, ansD as] [cup a b] = some (bD n fun p => b2i (pairsC d as c p), [cup a b]) := by
  show mFun 10 (B_p_pairs_done HasC.c (G HasC.c (k + 3))) _ _ = _
  have st : startD 10 [bD n fun p => b2i (c p), .int d, ansD as] = [some (bD n fun p => b2i (c p)), some (.int d), some (ansD as), none, none, none, none, none, none, none] := rfl
  obtain ⟨f4, f5, f6, f7, f8, f9, lp⟩ := pd_loop k n n9 c d d0 dn as hl (cup a b) (allP n) [] (fun _ h => h) (fun _ _ h => by cases h) (allP_nd n n9) (by have := allP_len n n9; simp; omega) none none none none none none
  rw [List.nil_append] at lp
  have km : ((allP n).map kv).map keyT = (allP n).map pD := by
    rw [List.map_map]
    rfl
  have s1 : mForK 0 HasC.c "ties" (tgTup 2 (tgCons (tgName 4) (tgCons (tgName 5) tgNil))) (pdB k) (pdE n c d (ansD as) none none none none none none) [cup a b, gD [] fun q => b2i (pC d as c q)] =
      some (.nx (pdE n c d (ansD as) f4 f5 f6 f7 f8 f9), [cup a b, gD ((allP n).filter (offD d)) fun q => b2i (pC d as c q)]) := by
    unfold mForK
    rw [dtAt_bD (n := n) (g := fun p => b2i (c p)) rfl]
    simp only []
    rw [km]
    exact lp
  have wt := g_with_ties k n n9 (fun p => b2i (c p)) (.mu 1) ((allP n).filter (offD d)) (fun q => b2i (pC d as c q)) [cup a b, gD ((allP n).filter (offD d)) fun q => b2i (pC d as c q)] (.inr ⟨1, rfl, rfl⟩)
  have s2 : mRet (mMeth HasC.c "with_ties" (G HasC.c (k + 3) .Bundle_with_ties) (mVar 0) (mCons (mVar 3) mNil)) (pdE n c d (ansD as) f4 f5 f6 f7 f8 f9) [cup a b, gD ((allP n).filter (offD d)) fun q => b2i (pC d as c q)] =
      some (.rt (bD n fun p => b2i (pairsC d as c p)), [cup a b, gD ((allP n).filter (offD d)) fun q => b2i (pC d as c q)]) := by
    have := m_meth (i := 0) (n := n) (g := fun p => b2i (c p)) (m := "with_ties") (gc := G HasC.c (k + 3) .Bundle_with_ties) (fa := mCons (mVar 3) mNil) (r := pdE n c d (ansD as) f4 f5 f6 f7 f8 f9) (M := [cup a b, gD ((allP n).filter (offD d)) fun q => b2i (pC d as c q)]) (as := [.mu 1]) (M2 := [cup a b, gD ((allP n).filter (offD d)) fun q => b2i (pC d as c q)]) rfl rfl (by decide)
    unfold mRet
    rw [this, wt]
    have e : bD n (wT ((allP n).filter (offD d)) (fun q => b2i (pC d as c q)) fun p => b2i (c p)) = bD n fun p => b2i (pairsC d as c p) := bD_on fun p hp => by
      unfold wT pairsC
      by_cases h : offD d p = true
      · rw [if_pos (List.mem_filter.mpr ⟨hp, h⟩), if_pos h]
      · rw [if_neg fun z => h (List.mem_filter.mp z).2, if_neg h]
    rw [e]
  unfold mFun
  rw [st, pd_eq]
  unfold mNew
  show (match (match mSeq _ _ (pdE n c d (ansD as) none none none none none none) [cup a b, gD [] fun q => b2i (pC d as c q)] with
      | some (Out.rt v, M2) => match M2[1]? with
        | some o => if (NL.clean 1 o && (M2.take 1).all (NL.clean 1)) = true then some (Out.rt (NL.told 1 o v), M2.take 1) else none
        | none => none
      | _ => none) with | some (Out.rt d, M1) => some (d, M1) | some (Out.nx _, M1) => some (D.non, M1) | _ => none) = _
  rw [mSeq_nx' s1, s2]
  show (match (if (NL.clean 1 (gD ((allP n).filter (offD d)) fun q => b2i (pC d as c q)) && ([cup a b] : List D).all (NL.clean 1)) = true then some (Out.rt (NL.told 1 (gD ((allP n).filter (offD d)) fun q => b2i (pC d as c q)) (bD n fun p => b2i (pairsC d as c p))), [cup a b]) else none) with | some (Out.rt d, M1) => some (d, M1) | some (Out.nx _, M1) => some (D.non, M1) | _ => none) = _
  rw [if_pos (by rw [gD_clean]; rfl)]
  rw [told_bD]
end MT

namespace MT
open PySem PySem.Spec PyProof.Rows L2 NL
variable [HasC]
/-! ### a "takes" -/
def takeC (as : List Bool) (w t : Bool) : Bool := as.getD ((if w then 2 else 0) + (b2i t).toNat) false
theorem ans4' (k : Nat) (as : List Bool) (h : as.length = 4) (w t : Bool) (M : MM) : G HasC.c (k + 1) .p_answered [ansD as, .tup [.int (b2i (!w)), .int (b2i w)], .tup [.int (b2i (!t)), .int (b2i t)]] M = some (.int (b2i (takeC as w t)), M) := by
  match as, h with
  | [a0, a1, a2, a3], _ =>
    have := ans4 k w t a0 a1 a2 a3 M
    refine this.trans ?_
    cases w <;> cases t <;> rfl
def othD (i : Int) (p : Int × Int) : Int := if p.1 = i then p.2 else p.1
theorem oth_prD {i m : Int} (h : i ≠ m) : othD i (prD i m) = m := by
  unfold othD prD lo2 hi2
  by_cases e : i < m
  · rw [if_pos e, if_pos e, if_pos rfl]
  · rw [if_neg e, if_neg e]
    exact if_neg fun z => h z.symm
def tC (i j : Int) (as : List Bool) (c : Int × Int → Bool) (p : Int × Int) : Bool := takeC as (c p) (c (prD j (othD i p)))
def tdE (n : Nat) (c : Int × Int → Bool) (i j : Int) (an : D) (e5 e6 e7 e8 : Option D) : En := [some (bD n fun p => b2i (c p)), some (.int i), some (.int j), some an, some (.mu 1), e5, e6, e7, e8]
def tdB (k : Nat) [HasC] : FS := mIfS (mB (mAnd (mOp oNe (mVar 5) (mVar 1)) (mOp oNe (mVar 5) (mVar 2)))) (mSeq (mAsg (kn k 1 5) (tgName 6)) (mSeq (mAsg (kn k 2 5) (tgName 7))
  (mSeq (mAsg (mTup (mCons (mOp oBxor (mFld HasC.c "full" (mVar 0)) (mVar 6)) (mCons (mVar 6) mNil))) (tgName 8))
    (mPut (mCall (G HasC.c (k + 3) .p_answered) (mCons (mVar 3) (mCons (mVar 8) (mCons (mTup (mCons (mOp oBxor (mFld HasC.c "full" (mVar 0)) (mVar 7)) (mCons (mVar 7) mNil))) mNil)))) (mVar 4) (mCall (G HasC.c (k + 3) .p_pair_of) (mCons (mVar 1) (mCons (mVar 5) mNil))))))) mSkip
theorem td_eq (k : Nat) : B_p_takes_done HasC.c (G HasC.c (k + 3)) = mNew 4 (mNewD (.dt [] [])) (mSeq (mForR rng1 (mCons (mFld HasC.c "people" (mVar 0)) mNil) (tgName 5) (tdB k)) (mRet (mMeth HasC.c "with_ties" (G HasC.c (k + 3) .Bundle_with_ties) (mVar 0) (mCons (mVar 4) mNil)))) := rfl
def off2 (i j : Int) (m : Nat) : Bool := !((m : Int) == i) && !((m : Int) == j)
theorem td_step (k n : Nat) (c : Int × Int → Bool) (i j : Int) (i0 : 0 ≤ i) (iN : i < n) (j0 : 0 ≤ j) (jN : j < n) (as : List Bool) (hl : as.length = 4) (x : D) (l : List (Int × Int)) (hll : l.length ≤ 1000) (m : Nat) (hm : m < n) (no : off2 i j m = true → prD i m ∉ l) (e6 e7 e8 : Option D) :
    ∃ f6 f7 f8 : Option D, tdB k (tdE n c i j (ansD as) (some (.int m)) e6 e7 e8) [x, gD l fun q => b2i (tC i j as c q)] =
      some (.nx (tdE n c i j (ansD as) (some (.int m)) f6 f7 f8), [x, gD (if off2 i j m = true then l ++ [prD i m] else l) fun q => b2i (tC i j as c q)]) := by
  cases ho : off2 i j m with
  | false =>
    refine ⟨e6, e7, e8, ?_⟩
    have q : mB (mAnd (mOp oNe (mVar 5) (mVar 1)) (mOp oNe (mVar 5) (mVar 2))) (tdE n c i j (ansD as) (some (.int m)) e6 e7 e8) [x, gD l fun q => b2i (tC i j as c q)] = some (false, [x, gD l fun q => b2i (tC i j as c q)]) := by
      generalize gD l _ = gg
      generalize ansD as = an
      unfold off2 at ho
      cases h1 : ((m : Int) == i) with
      | true => simp only [mB, mAnd, mOp, mVar, tdE, List.getElem?_cons_succ, List.getElem?_cons_zero, oNe_ii, h1, Bool.not_true]
      | false =>
        rw [h1] at ho
        have h2 : ((m : Int) == j) = true := by simpa using ho
        simp only [mB, mAnd, mOp, mVar, tdE, List.getElem?_cons_succ, List.getElem?_cons_zero, oNe_ii, h1, h2, Bool.not_true, Bool.not_false]
    unfold tdB mIfS
    rw [q]
    rfl
  | true =>
    have hd1 : ¬ (m : Int) = i := by
      unfold off2 at ho
      simp at ho
      exact ho.1
    have hd2 : ¬ (m : Int) = j := by
      unfold off2 at ho
      simp at ho
      exact ho.2
    have q : mB (mAnd (mOp oNe (mVar 5) (mVar 1)) (mOp oNe (mVar 5) (mVar 2))) (tdE n c i j (ansD as) (some (.int m)) e6 e7 e8) [x, gD l fun q => b2i (tC i j as c q)] = some (true, [x, gD l fun q => b2i (tC i j as c q)]) := by
      generalize gD l _ = gg
      generalize ansD as = an
      have h1 : ((m : Int) == i) = false := by simpa using hd1
      have h2 : ((m : Int) == j) = false := by simpa using hd2
      simp only [mB, mAnd, mOp, mVar, tdE, List.getElem?_cons_succ, List.getElem?_cons_zero, oNe_ii, h1, h2, Bool.not_false]
    have k2 : ∀ x6 x7 x8, kn k 1 5 (tdE n c i j (ansD as) (some (.int m)) x6 x7 x8) [x, gD l fun q => b2i (tC i j as c q)] = some (.int (b2i (c (prD i m))), [x, gD l fun q => b2i (tC i j as c q)]) := fun x6 x7 x8 =>
      kn_ok k n c rfl rfl rfl (prD_in i0 iN (by omega) (by omega) fun z => hd1 z.symm)
    have k3 : ∀ x6 x7 x8, kn k 2 5 (tdE n c i j (ansD as) (some (.int m)) x6 x7 x8) [x, gD l fun q => b2i (tC i j as c q)] = some (.int (b2i (c (prD j m))), [x, gD l fun q => b2i (tC i j as c q)]) := fun x6 x7 x8 =>
      kn_ok k n c rfl rfl rfl (prD_in j0 jN (by omega) (by omega) fun z => hd2 z.symm)
    have fl : ∀ x6 x7 x8, mFld HasC.c "full" (mVar 0) (tdE n c i j (ansD as) (some (.int m)) x6 x7 x8) [x, gD l fun q => b2i (tC i j as c q)] = some (.int 1, [x, gD l fun q => b2i (tC i j as c q)]) := fun _ _ _ => m_fld rfl l_full
    have an := ans4' (k + 2) as hl (c (prD i m)) (c (prD j m)) [x, gD l fun q => b2i (tC i j as c q)]
    have pr := g_pair_of (k + 2) i m [x, gD l fun q => b2i (tC i j as c q)]
    have hv : tC i j as c (prD i m) = takeC as (c (prD i m)) (c (prD j m)) := by
      unfold tC
      rw [oth_prD fun z => hd1 z.symm]
    have put := putO_new (l := l) (g := fun q => b2i (tC i j as c q)) (p := prD i m) (i := b2i (takeC as (c (prD i m)) (c (prD j m)))) (no ho) hll (by rw [← hv])
    refine ⟨some (.int (b2i (c (prD i m)))), some (.int (b2i (c (prD j m)))), some (.tup [.int (b2i (!c (prD i m))), .int (b2i (c (prD i m)))]), ?_⟩
    rw [if_pos rfl]
    unfold tdB
    rw [mIfS_true' q]
    have s2 : mAsg (kn k 1 5) (tgName 6) (tdE n c i j (ansD as) (some (.int m)) e6 e7 e8) [x, gD l fun q => b2i (tC i j as c q)] = some (.nx (tdE n c i j (ansD as) (some (.int m)) (some (.int (b2i (c (prD i m))))) e7 e8), [x, gD l fun q => b2i (tC i j as c q)]) := by
      unfold mAsg
      rw [k2]
      rfl
    have s3 : ∀ x6, mAsg (kn k 2 5) (tgName 7) (tdE n c i j (ansD as) (some (.int m)) x6 e7 e8) [x, gD l fun q => b2i (tC i j as c q)] = some (.nx (tdE n c i j (ansD as) (some (.int m)) x6 (some (.int (b2i (c (prD j m))))) e8), [x, gD l fun q => b2i (tC i j as c q)]) := fun x6 => by
      unfold mAsg
      rw [k3]
      rfl
    rw [mSeq_nx' s2, mSeq_nx' (s3 _)]
    have fl' := fl (some (.int (b2i (c (prD i m))))) (some (.int (b2i (c (prD j m)))))
    generalize (gD (l ++ [prD i m]) fun q => b2i (tC i j as c q)) = gg' at *
    generalize (gD l fun q => b2i (tC i j as c q)) = gg at *
    generalize ansD as = aa at *
    generalize c (prD i m) = f0 at *
    generalize c (prD j m) = g0 at *
    generalize pD (prD i m) = y0 at *
    have s4 : mAsg (mTup (mCons (mOp oBxor (mFld HasC.c "full" (mVar 0)) (mVar 6)) (mCons (mVar 6) mNil))) (tgName 8) (tdE n c i j aa (some (.int m)) (some (.int (b2i f0))) (some (.int (b2i g0))) e8) [x, gg] =
        some (.nx (tdE n c i j aa (some (.int m)) (some (.int (b2i f0))) (some (.int (b2i g0))) (some (.tup [.int (b2i (!f0)), .int (b2i f0)]))), [x, gg]) := by
      have v6 : ∀ y, mVar 6 (tdE n c i j aa (some (.int m)) (some (.int (b2i f0))) (some (.int (b2i g0))) y) [x, gg] = some (.int (b2i f0), [x, gg]) := fun _ => rfl
      simp only [mAsg, mTup, mCons, mNil, mOp, fl' e8, v6, b1x]
      rfl
    rw [mSeq_nx' s4]
    have v7 : ∀ y, mVar 7 (tdE n c i j aa (some (.int m)) (some (.int (b2i f0))) (some (.int (b2i g0))) (some y)) [x, gg] = some (.int (b2i g0), [x, gg]) := fun _ => rfl
    have v3 : ∀ y, mVar 3 (tdE n c i j aa (some (.int m)) (some (.int (b2i f0))) (some (.int (b2i g0))) (some y)) [x, gg] = some (aa, [x, gg]) := fun _ => rfl
    have v8 : ∀ y, mVar 8 (tdE n c i j aa (some (.int m)) (some (.int (b2i f0))) (some (.int (b2i g0))) (some y)) [x, gg] = some (y, [x, gg]) := fun _ => rfl
    have v4 : ∀ y, mVar 4 (tdE n c i j aa (some (.int m)) (some (.int (b2i f0))) (some (.int (b2i g0))) (some y)) [x, gg] = some (.mu 1, [x, gg]) := fun _ => rfl
    have v1 : ∀ y, mVar 1 (tdE n c i j aa (some (.int m)) (some (.int (b2i f0))) (some (.int (b2i g0))) (some y)) [x, gg] = some (.int i, [x, gg]) := fun _ => rfl
    have v5 : ∀ y, mVar 5 (tdE n c i j aa (some (.int m)) (some (.int (b2i f0))) (some (.int (b2i g0))) (some y)) [x, gg] = some (.int m, [x, gg]) := fun _ => rfl
    simp only [mPut, mCall, mTup, mCons, mNil, mOp, fl', v1, v3, v4, v5, v7, v8, b1x, an, pr, List.getElem?_cons_succ, List.getElem?_cons_zero, put, List.set_cons_succ, List.set_cons_zero]
theorem td_loop (k n : Nat) (c : Int × Int → Bool) (i j : Int) (i0 : 0 ≤ i) (iN : i < n) (j0 : 0 ≤ j) (jN : j < n) (as : List Bool) (hl : as.length = 4) (x : D) : ∀ (ms : List Nat) (l : List (Int × Int)), (∀ m ∈ ms, m < n) → (∀ m ∈ ms, off2 i j m = true → prD i m ∉ l) → ms.Nodup → l.length + ms.length ≤ 1000 → ∀ e5 e6 e7 e8 : Option D, ∃ f5 f6 f7 f8 : Option D,
    forD (tgName 5) (tdB k) (ms.map fun (m : Nat) => D.int (m : Int)) (tdE n c i j (ansD as) e5 e6 e7 e8) [x, gD l fun q => b2i (tC i j as c q)] =
      some (.nx (tdE n c i j (ansD as) f5 f6 f7 f8), [x, gD (l ++ (ms.filter (off2 i j)).map fun (m : Nat) => prD i m) fun q => b2i (tC i j as c q)])
  | [], l, _, _, _, _, e5, e6, e7, e8 => ⟨e5, e6, e7, e8, by
    have : l ++ (([] : List Nat).filter (off2 i j)).map (fun (m : Nat) => prD i m) = l := by simp
    rw [this]
    rfl⟩
  | m :: ms, l, hm, no, nd, hll, e5, e6, e7, e8 => by
    obtain ⟨np, nd'⟩ := List.nodup_cons.mp nd
    have nop := no m List.mem_cons_self
    simp only [List.length_cons] at hll
    obtain ⟨g6, g7, g8, st⟩ := td_step k n c i j i0 iN j0 jN as hl x l (by omega) m (hm m List.mem_cons_self) nop e6 e7 e8
    obtain ⟨f5, f6, f7, f8, q⟩ := td_loop k n c i j i0 iN j0 jN as hl x ms (if off2 i j m = true then l ++ [prD i m] else l) (fun y hy => hm y (List.mem_cons_of_mem _ hy)) (fun y hy hoy => by
      have h1 := no y (List.mem_cons_of_mem _ hy) hoy
      by_cases h : off2 i j m = true
      · rw [if_pos h]
        intro z
        rcases List.mem_append.mp z with z | z
        · exact h1 z
        · have e : prD i y = prD i m := by simpa using z
          have a1 : i ≠ (y : Int) := fun w => by
            unfold off2 at hoy
            simp [← w] at hoy
          have a2 : i ≠ (m : Int) := fun w => by
            unfold off2 at h
            simp [← w] at h
          have := oth_prD a1
          rw [e, oth_prD a2] at this
          have : m = y := by omega
          exact np (this ▸ hy)
      · rw [if_neg h]
        exact h1) nd' (by
      by_cases h : off2 i j m = true
      · rw [if_pos h, List.length_append, List.length_singleton]
        omega
      · rw [if_neg h]
        omega) (some (.int m)) g6 g7 g8
    refine ⟨f5, f6, f7, f8, ?_⟩
    have e : l ++ ((m :: ms).filter (off2 i j)).map (fun (m : Nat) => prD i m) = (if off2 i j m = true then l ++ [prD i m] else l) ++ (ms.filter (off2 i j)).map fun (m : Nat) => prD i m := by
      by_cases h : off2 i j m = true
      · rw [if_pos h, List.filter_cons_of_pos h]
        simp
      · rw [if_neg h, List.filter_cons_of_neg h]
    rw [e, ← q]
    show forD _ _ (D.int m :: ms.map fun (m : Nat) => D.int (m : Int)) _ _ = _
    rw [forD]
    have tg : tgName 5 (D.int m) (tdE n c i j (ansD as) e5 e6 e7 e8) = some (tdE n c i j (ansD as) (some (.int m)) e6 e7 e8) := rfl
    rw [tg]
    dsimp only
    rw [st]
def takL (n : Nat) (i j : Int) : List (Int × Int) := ((List.range n).filter (off2 i j)).map fun (m : Nat) => prD i m
def takesC (n : Nat) (i j : Int) (as : List Bool) (c : Int × Int → Bool) (p : Int × Int) : Bool := if p ∈ takL n i j then tC i j as c p else c p
theorem g_takes_done (k n : Nat) (n9 : n ≤ 9) (c : Int × Int → Bool) (i j : Int) (i0 : 0 ≤ i) (iN : i < n) (j0 : 0 ≤ j) (jN : j < n) (as : List Bool) (hl : as.length = 4) (a b : Int) :
    G HasC.c (k + 4) .p_takes_done [bD n fun p => b2i (c p), .int i, .int j, ansD as] [cup a b] = some (bD n fun p => b2i (takesC n i j as c p), [cup a b]) := by
  show mFun 9 (B_p_takes_done HasC.c (G HasC.c (k + 3))) _ _ = _
  have st : startD 9 [bD n fun p => b2i (c p), .int i, .int j, ansD as] = [some (bD n fun p => b2i (c p)), some (.int i), some (.int j), some (ansD as), none, none, none, none, none] := rfl
  obtain ⟨f5, f6, f7, f8, lp⟩ := td_loop k n c i j i0 iN j0 jN as hl (cup a b) (List.range n) [] (fun m h => List.mem_range.mp h) (fun _ _ _ h => by cases h) List.nodup_range (by simp; omega) none none none none
  rw [List.nil_append] at lp
  have s1 : mForR rng1 (mCons (mFld HasC.c "people" (mVar 0)) mNil) (tgName 5) (tdB k) (tdE n c i j (ansD as) none none none none) [cup a b, gD [] fun q => b2i (tC i j as c q)] =
      some (.nx (tdE n c i j (ansD as) f5 f6 f7 f8), [cup a b, gD (takL n i j) fun q => b2i (tC i j as c q)]) := by
    have f : mCons (mFld HasC.c "people" (mVar 0)) mNil (tdE n c i j (ansD as) none none none none) [cup a b, gD [] fun q => b2i (tC i j as c q)] = some ([.int n], [cup a b, gD [] fun q => b2i (tC i j as c q)]) := by
      have : mFld HasC.c "people" (mVar 0) (tdE n c i j (ansD as) none none none none) [cup a b, gD [] fun q => b2i (tC i j as c q)] = some (.int n, [cup a b, gD [] fun q => b2i (tC i j as c q)]) := m_fld rfl l_people
      simp only [mCons, mNil, this]
    have rg : rng1 [.int (n : Int)] = some (0, (n : Int)) := by
      show (if (n : Int).natAbs ≤ 1000000 then some ((0 : Int), (n : Int)) else none) = _
      rw [if_pos (by omega)]
    have e0 : ((n : Int) - 0).toNat = n := by omega
    have er : rangeD 0 n = (List.range n).map fun (m : Nat) => D.int (m : Int) := by
      unfold rangeD
      refine List.map_congr_left fun m _ => ?_
      rw [Int.zero_add]
    unfold mForR
    rw [f]
    simp only []
    rw [rg]
    simp only []
    rw [e0, er]
    exact lp
  have wt := g_with_ties k n n9 (fun p => b2i (c p)) (.mu 1) (takL n i j) (fun q => b2i (tC i j as c q)) [cup a b, gD (takL n i j) fun q => b2i (tC i j as c q)] (.inr ⟨1, rfl, rfl⟩)
  have s2 : mRet (mMeth HasC.c "with_ties" (G HasC.c (k + 3) .Bundle_with_ties) (mVar 0) (mCons (mVar 4) mNil)) (tdE n c i j (ansD as) f5 f6 f7 f8) [cup a b, gD (takL n i j) fun q => b2i (tC i j as c q)] =
      some (.rt (bD n fun p => b2i (takesC n i j as c p)), [cup a b, gD (takL n i j) fun q => b2i (tC i j as c q)]) := by
    have := m_meth (i := 0) (n := n) (g := fun p => b2i (c p)) (m := "with_ties") (gc := G HasC.c (k + 3) .Bundle_with_ties) (fa := mCons (mVar 4) mNil) (r := tdE n c i j (ansD as) f5 f6 f7 f8) (M := [cup a b, gD (takL n i j) fun q => b2i (tC i j as c q)]) (as := [.mu 1]) (M2 := [cup a b, gD (takL n i j) fun q => b2i (tC i j as c q)]) rfl rfl (by decide)
    unfold mRet
    rw [this, wt]
    have e : bD n (wT (takL n i j) (fun q => b2i (tC i j as c q)) fun p => b2i (c p)) = bD n fun p => b2i (takesC n i j as c p) := bD_on fun p hp => by
      unfold wT takesC
      by_cases h : p ∈ takL n i j
      · rw [if_pos h, if_pos h]
      · rw [if_neg h, if_neg h]
    rw [e]
  unfold mFun
  rw [st, td_eq]
  unfold mNew
  show (match (match mSeq _ _ (tdE n c i j (ansD as) none none none none) [cup a b, gD [] fun q => b2i (tC i j as c q)] with
      | some (Out.rt v, M2) => match M2[1]? with
        | some o => if (NL.clean 1 o && (M2.take 1).all (NL.clean 1)) = true then some (Out.rt (NL.told 1 o v), M2.take 1) else none
        | none => none
      | _ => none) with | some (Out.rt d, M1) => some (d, M1) | some (Out.nx _, M1) => some (D.non, M1) | _ => none) = _
  rw [mSeq_nx' s1, s2]
  show (match (if (NL.clean 1 (gD (takL n i j) fun q => b2i (tC i j as c q)) && ([cup a b] : List D).all (NL.clean 1)) = true then some (Out.rt (NL.told 1 (gD (takL n i j) fun q => b2i (tC i j as c q)) (bD n fun p => b2i (takesC n i j as c p))), [cup a b]) else none) with | some (Out.rt d, M1) => some (d, M1) | some (Out.nx _, M1) => some (D.non, M1) | _ => none) = _
  rw [if_pos (by rw [gD_clean]; rfl), told_bD]
end MT

namespace MT
open PySem PySem.Spec PyProof.Rows L2 NL
variable [HasC]
/-! ### a deed, told apart -/
inductive Deed where
  | pairs (d : Int) (as : List Bool)
  | takes (i j : Int) (as : List Bool)
  | tie (i j : Int) (w : Str)
def deedD : Deed → D
  | .pairs d as => .tup [.str "pairs", .int d, ansD as]
  | .takes i j as => .tup [.str "takes", .int i, .int j, ansD as]
  | .tie i j w => .tup [.str "tie", .int i, .int j, .str w]
def okDeed (k : Nat) : Deed → Prop
  | .pairs d as => 0 ≤ d ∧ d < k ∧ as.length = 6
  | .takes i j as => 0 ≤ i ∧ i < k ∧ 0 ≤ j ∧ j < k ∧ i ≠ j ∧ as.length = 4
  | .tie i j w => 0 ≤ i ∧ i < k ∧ 0 ≤ j ∧ j < k ∧ i ≠ j ∧ (w = "know" ∨ w = "part" ∨ w = "turn")
/-- what comes of each pair -/
def outC (n : Nat) (c : Int × Int → Bool) : Deed → Int × Int → Bool
  | .pairs d as => pairsC d as c
  | .takes i j as => takesC n i j as c
  | .tie i j w => fun p => if p = prD i j then tieC w (c p) else c p
theorem g_deed_done (l k n : Nat) (n9 : n ≤ 9) (kn : k ≤ n) (c : Int × Int → Bool) (dd : Deed) (ok : okDeed k dd) (a b : Int) : G HasC.c (l + 5) .p_deed_done [bD n fun p => b2i (c p), deedD dd] [cup a b] = some (bD n fun p => b2i (outC n c dd p), [cup a b]) := by
  show mFun 2 (B_p_deed_done (G HasC.c (l + 4))) _ _ = _
  have st : startD 2 [bD n fun p => b2i (c p), deedD dd] = [some (bD n fun p => b2i (c p)), some (deedD dd)] := rfl
  unfold mFun
  rw [st]
  cases dd with
  | pairs d as =>
    obtain ⟨h1, h2, h3⟩ := ok
    have g := g_pairs_done l n n9 c d h1 (by omega) as h3 a b
    have i0 : ∀ M, oIx M (deedD (.pairs d as)) (.int 0) = some (.str "pairs") := fun _ => at0 _ _
    have i1 : ∀ M, oIx M (deedD (.pairs d as)) (.int 1) = some (.int d) := fun _ => at1 _ _ _
    have i2 : ∀ M, oIx M (deedD (.pairs d as)) (.int 2) = some (ansD as) := fun _ => at2 _ _ _ _
    have q : ∀ M, oEq M (.str "pairs") (.str "pairs") = some (.bl true) := fun _ => rfl
    generalize deedD (.pairs d as) = x at *
    generalize bD n (fun p => b2i (c p)) = bb at *
    simp only [B_p_deed_done, mSeq, mIfS, mB, mOp, mVar, mC, mRet, mCall, mCons, mNil, List.getElem?_cons_succ, List.getElem?_cons_zero, i0, i1, i2, q, g]
    rfl
  | takes i j as =>
    obtain ⟨h1, h2, h3, h4, h5, h6⟩ := ok
    have g := g_takes_done l n n9 c i j h1 (by omega) h3 (by omega) as h6 a b
    have i0 : ∀ M, oIx M (deedD (.takes i j as)) (.int 0) = some (.str "takes") := fun _ => at0 _ _
    have i1 : ∀ M, oIx M (deedD (.takes i j as)) (.int 1) = some (.int i) := fun _ => at1 _ _ _
    have i2 : ∀ M, oIx M (deedD (.takes i j as)) (.int 2) = some (.int j) := fun _ => at2 _ _ _ _
    have i3 : ∀ M, oIx M (deedD (.takes i j as)) (.int 3) = some (ansD as) := fun _ => atI_nat (j := 3) rfl
    have q : ∀ M, oEq M (.str "takes") (.str "pairs") = some (.bl false) := fun _ => rfl
    have q2 : ∀ M, oEq M (.str "takes") (.str "takes") = some (.bl true) := fun _ => rfl
    generalize deedD (.takes i j as) = x at *
    generalize bD n (fun p => b2i (c p)) = bb at *
    simp only [B_p_deed_done, mSeq, mIfS, mB, mOp, mVar, mC, mRet, mSkip, mCall, mCons, mNil, List.getElem?_cons_succ, List.getElem?_cons_zero, i0, i1, i2, i3, q, q2, g]
    rfl
  | tie i j w =>
    obtain ⟨h1, h2, h3, h4, h5, h6⟩ := ok
    have g := g_tie_done l n n9 c i j w h6 a b (prD_in h1 (by omega) h3 (by omega) h5)
    have i0 : ∀ M, oIx M (deedD (.tie i j w)) (.int 0) = some (.str "tie") := fun _ => at0 _ _
    have i1 : ∀ M, oIx M (deedD (.tie i j w)) (.int 1) = some (.int i) := fun _ => at1 _ _ _
    have i2 : ∀ M, oIx M (deedD (.tie i j w)) (.int 2) = some (.int j) := fun _ => at2 _ _ _ _
    have i3 : ∀ M, oIx M (deedD (.tie i j w)) (.int 3) = some (.str w) := fun _ => atI_nat (j := 3) rfl
    have q : ∀ M, oEq M (.str "tie") (.str "pairs") = some (.bl false) := fun _ => rfl
    have q2 : ∀ M, oEq M (.str "tie") (.str "takes") = some (.bl false) := fun _ => rfl
    generalize deedD (.tie i j w) = x at *
    generalize bD n (fun p => b2i (c p)) = bb at *
    simp only [B_p_deed_done, mSeq, mIfS, mB, mOp, mVar, mC, mRet, mSkip, mCall, mCons, mNil, List.getElem?_cons_succ, List.getElem?_cons_zero, i0, i1, i2, i3, q, q2, g]
    rfl
theorem deed_str (dd : Deed) : ∃ s : Str, (∀ M, oIx M (deedD dd) (.int 0) = some (.str s)) ∧ ∀ M, oEq M (.str s) (.str "ask") = some (.bl false) := by
  cases dd with
  | pairs d as => exact ⟨"pairs", fun _ => at0 _ _, fun _ => rfl⟩
  | takes i j as => exact ⟨"takes", fun _ => at0 _ _, fun _ => rfl⟩
  | tie i j w => exact ⟨"tie", fun _ => at0 _ _, fun _ => rfl⟩
theorem g_items_done (l k n : Nat) (n9 : n ≤ 9) (kn : k ≤ n) (c : Int × Int → Bool) (dd : Deed) (ok : okDeed k dd) (a b : Int) : G HasC.c (l + 6) .p_items_done [bD n fun p => b2i (c p), .tup [deedD dd]] [cup a b] = some (bD n fun p => b2i (outC n c dd p), [cup a b]) := by
  show mFun 3 (B_p_items_done (G HasC.c (l + 5))) _ _ = _
  have st : startD 3 [bD n fun p => b2i (c p), .tup [deedD dd]] = [some (bD n fun p => b2i (c p)), some (.tup [deedD dd]), none] := rfl
  obtain ⟨s, i0, q⟩ := deed_str dd
  have g := g_deed_done l k n n9 kn c dd ok a b
  generalize deedD dd = x at *
  generalize bD n (fun p => b2i (c p)) = bb at *
  unfold mFun
  rw [st]
  simp only [B_p_items_done, mSeq, mFor, itemsT, forD, tgName, mIfS, mB, mOp, mVar, mC, mRet, mAsg, mCall, mCons, mNil, List.getElem?_cons_succ, List.getElem?_cons_zero, List.set_cons_succ, List.set_cons_zero, i0, q, g]
theorem g_company_done {kk n : Nat} {ts : List (Int × Int)} (co : Co kk n ts) (nd : ts.Nodup) (l : Nat) (dd : Deed) (ok : okDeed kk dd) (a b : Int) : G HasC.c (l + 7) .p_company_done [cD n ts, .tup [deedD dd]] [cup a b] = some (cD n ((allP n).filter (outC n (fun p => decide (p ∈ ts)) dd)), [cup a b]) := by
  show mFun 2 (B_p_company_done (G HasC.c (l + 6))) _ _ = _
  have st : startD 2 [cD n ts, .tup [deedD dd]] = [some (cD n ts), some (.tup [deedD dd])] := rfl
  have g1 := g_bundle_of co nd (l + 3) a b
  have g2 := g_items_done l kk n co.n9 co.kn (fun p => decide (p ∈ ts)) dd ok a b
  have g3 := g_company_in (l + 5) n co.n9 (outC n (fun p => decide (p ∈ ts)) dd) [cup a b]
  have g1' : G HasC.c (l + 6) .p_bundle_of [.lst [cD n ts]] [cup a b] = some (bD n fun p => b2i (decide (p ∈ ts)), [cup a b]) := g1
  unfold mFun
  rw [st]
  generalize cD n ts = x at *
  simp only [B_p_company_done, mRet, mCall, mCons, mNil, mLst, mVar, mC, List.getElem?_cons_succ, List.getElem?_cons_zero, g1', g2, g3]
end MT

namespace MT
open PySem PySem.Spec PyProof.Rows L2 NL
variable [HasC]
/-! ### the script of one deed is one -/
theorem btw_i {i lo hi : Int} (h1 : lo ≤ i) (h2 : i ≤ hi) : btw (.int i) lo hi = true := by simp [btw, h1, h2]
theorem g_are_answers (l : Nat) (as : List Bool) (h : as.length ≤ 10) (M : MM) : G HasC.c (l + 3) .p_are_answers [ansD as, .int as.length] M = some (.bl true, M) := by
  show mFun 3 (B_p_are_answers (G HasC.c (l + 2))) _ M = _
  have st : startD 3 [ansD as, .int as.length] = [some (ansD as), some (.int as.length), none] := rfl
  have t := g_is_tuple_of (l + 1) (ansD as) as.length M rfl (fun xs z => by cases z)
  have tt : tupN (ansD as) as.length = true := by
    simp [tupN, ansD]
  rw [tt] at t
  have lc : lcD (tgName 2) mYes (mCall (G HasC.c (l + 2) .p_is_between) (mCons (mVar 2) (mCons (mC (.int 0)) (mCons (mC (.int 1)) mNil)))) [some (ansD as), some (.int as.length), none] (as.map fun a => .int (b2i a)) M = some ((as.map fun a => D.int (b2i a)).map fun _ => .bl true, M) := by
    refine lcD_map (fun _ => .bl true) fun d hd => ?_
    obtain ⟨a, _, rfl⟩ := List.mem_map.mp hd
    have b := g_is_between l (.int (b2i a)) 0 1 M rfl
    rw [btw_i (by cases a <;> decide) (by cases a <;> decide)] at b
    refine ⟨_, rfl, ?_⟩
    generalize ansD as = x at *
    simp only [mCall, mCons, mNil, mVar, mC, List.getElem?_cons_succ, List.getElem?_cons_zero, List.set_cons_succ, List.set_cons_zero, b]
  have bo := boolsOf_map (fun _ => true) (as.map fun a => D.int (b2i a))
  have al : oAll M [.lst ((as.map fun a => D.int (b2i a)).map fun _ => .bl true)] = some (.bl true) := by
    show (match boolsOf ((as.map fun a => D.int (b2i a)).map fun _ => D.bl true) with | some bs => some (D.bl (bs.all id)) | none => none) = _
    rw [bo]
    simp
  have ml : mLc itemsT (mVar 0) (tgName 2) mYes (mCall (G HasC.c (l + 2) .p_is_between) (mCons (mVar 2) (mCons (mC (.int 0)) (mCons (mC (.int 1)) mNil)))) [2] [some (ansD as), some (.int as.length), none] M = some (.lst ((as.map fun a => D.int (b2i a)).map fun _ => .bl true), M) := by
    have v : mVar 0 [some (ansD as), some (.int as.length), none] M = some (ansD as, M) := rfl
    unfold mLc
    rw [v]
    show (if (as.map fun a => D.int (b2i a)).length ≤ 1000 then _ else none) = _
    rw [if_pos (by rw [List.length_map]; omega)]
    have w0 : wipeD [some (ansD as), some (.int as.length), none] [2] = [some (ansD as), some (.int as.length), none] := rfl
    rw [w0, lc]
  unfold mFun
  rw [st]
  unfold B_p_are_answers
  generalize ansD as = x at *
  simp only [mRet, mAnd, mCall, mCons, mNil, mVar, List.getElem?_cons_succ, List.getElem?_cons_zero, t, mFn, ml, al]
theorem g_two_named (l k : Nat) (i j : Int) (h1 : 0 ≤ i) (h2 : i < k) (h3 : 0 ≤ j) (h4 : j < k) (h : i ≠ j) (M : MM) : G HasC.c (l + 3) .p_are_two_named [.int k, .int i, .int j] M = some (.bl true, M) := by
  show mFun 3 (B_p_are_two_named (G HasC.c (l + 2))) _ M = _
  have b1 := g_is_between l (.int i) 0 ((k : Int) - 1) M rfl
  have b2 := g_is_between l (.int j) 0 ((k : Int) - 1) M rfl
  rw [btw_i h1 (by omega)] at b1
  rw [btw_i h3 (by omega)] at b2
  have s : oSub M (.int k) (.int 1) = some (.int ((k : Int) - 1)) := rfl
  have e : (i == j) = false := by simpa using h
  have st : startD 3 [.int k, .int i, .int j] = [some (.int k), some (.int i), some (.int j)] := rfl
  unfold mFun
  rw [st]
  simp only [B_p_are_two_named, mRet, mAnd, mCall, mCons, mNil, mOp, mVar, mC, List.getElem?_cons_succ, List.getElem?_cons_zero, s, b1, b2, oNe_ii, e, Bool.not_false]
theorem in_words {w : Str} {M : MM} (h6 : w = "know" ∨ w = "part" ∨ w = "turn") : oInX M (.str w) (.ct [(.str "know"), (.str "part"), (.str "turn")]) = some (.bl true) := by
  have all : ∀ w : Str, (okD (.str w) && okD (.ct [(.str "know"), (.str "part"), (.str "turn")])) = true → anyEq (.str w) [(.str "know"), (.str "part"), (.str "turn")] = true → oInX M (.str w) (.ct [(.str "know"), (.str "part"), (.str "turn")]) = some (.bl true) := fun w h1 h2 => by
    show (if (okD (.str w) && okD (.ct [(.str "know"), (.str "part"), (.str "turn")])) = true then some (D.bl (anyEq (.str w) [(.str "know"), (.str "part"), (.str "turn")])) else none) = _
    rw [if_pos h1, h2]
  rcases h6 with rfl | rfl | rfl
  · exact all _ (by decide +kernel) (by decide +kernel)
  · exact all _ (by decide +kernel) (by decide +kernel)
  · exact all _ (by decide +kernel) (by decide +kernel)
theorem g_is_deed_of (l k : Nat) (dd : Deed) (ok : okDeed k dd) (M : MM) : G HasC.c (l + 4) .p_is_deed_of [.int k, deedD dd] M = some (.bl true, M) := by
  show mFun 2 (B_p_is_deed_of (G HasC.c (l + 3))) _ M = _
  have st : startD 2 [.int k, deedD dd] = [some (.int k), some (deedD dd)] := rfl
  unfold mFun
  rw [st]
  cases dd with
  | pairs d as =>
    obtain ⟨h1, h2, h3⟩ := ok
    have t := g_is_tuple_of (l + 2) (deedD (.pairs d as)) 3 M rfl (fun xs z => by cases z)
    have tt : tupN (deedD (.pairs d as)) 3 = true := rfl
    rw [tt] at t
    have t' : G HasC.c (l + 3) .p_is_tuple_of [deedD (.pairs d as), .int 3] M = some (.bl true, M) := t
    have i0 : oIx M (deedD (.pairs d as)) (.int 0) = some (.str "pairs") := at0 _ _
    have i1 : oIx M (deedD (.pairs d as)) (.int 1) = some (.int d) := at1 _ _ _
    have i2 : oIx M (deedD (.pairs d as)) (.int 2) = some (ansD as) := at2 _ _ _ _
    have q : oEq M (.str "pairs") (.str "pairs") = some (.bl true) := rfl
    have b := g_is_between (l + 1) (.int d) 0 ((k : Int) - 1) M rfl
    rw [btw_i h1 (by omega)] at b
    have s : oSub M (.int k) (.int 1) = some (.int ((k : Int) - 1)) := rfl
    have an := g_are_answers l as (by omega) M
    rw [h3] at an
    have an' : G HasC.c (l + 3) .p_are_answers [ansD as, .int 6] M = some (.bl true, M) := an
    generalize deedD (.pairs d as) = x at *
    generalize ansD as = y at *
    simp only [B_p_is_deed_of, mSeq, mIfS, mB, mAnd, mRet, mCall, mCons, mNil, mOp, mVar, mC, List.getElem?_cons_succ, List.getElem?_cons_zero, t', i0, i1, i2, q, s, b, an']
  | takes i j as =>
    obtain ⟨h1, h2, h3, h4, h5, h6⟩ := ok
    have t := g_is_tuple_of (l + 2) (deedD (.takes i j as)) 3 M rfl (fun xs z => by cases z)
    have t4 := g_is_tuple_of (l + 2) (deedD (.takes i j as)) 4 M rfl (fun xs z => by cases z)
    have t' : G HasC.c (l + 3) .p_is_tuple_of [deedD (.takes i j as), .int 3] M = some (.bl false, M) := t
    have t4' : G HasC.c (l + 3) .p_is_tuple_of [deedD (.takes i j as), .int 4] M = some (.bl true, M) := t4
    have i0 : oIx M (deedD (.takes i j as)) (.int 0) = some (.str "takes") := at0 _ _
    have i1 : oIx M (deedD (.takes i j as)) (.int 1) = some (.int i) := at1 _ _ _
    have i2 : oIx M (deedD (.takes i j as)) (.int 2) = some (.int j) := at2 _ _ _ _
    have i3 : oIx M (deedD (.takes i j as)) (.int 3) = some (ansD as) := atI_nat (j := 3) rfl
    have q : oEq M (.str "takes") (.str "takes") = some (.bl true) := rfl
    have tw := g_two_named l k i j h1 h2 h3 h4 h5 M
    have an := g_are_answers l as (by omega) M
    rw [h6] at an
    have an' : G HasC.c (l + 3) .p_are_answers [ansD as, .int 4] M = some (.bl true, M) := an
    generalize deedD (.takes i j as) = x at *
    generalize ansD as = y at *
    simp only [B_p_is_deed_of, mSeq, mIfS, mB, mAnd, mOr, mNot, mSkip, mRet, mCall, mCons, mNil, mOp, mVar, mC, List.getElem?_cons_succ, List.getElem?_cons_zero, t', t4', i0, i1, i2, i3, q, tw, an', Bool.not_true]
  | tie i j w =>
    obtain ⟨h1, h2, h3, h4, h5, h6⟩ := ok
    have t := g_is_tuple_of (l + 2) (deedD (.tie i j w)) 3 M rfl (fun xs z => by cases z)
    have t4 := g_is_tuple_of (l + 2) (deedD (.tie i j w)) 4 M rfl (fun xs z => by cases z)
    have t' : G HasC.c (l + 3) .p_is_tuple_of [deedD (.tie i j w), .int 3] M = some (.bl false, M) := t
    have t4' : G HasC.c (l + 3) .p_is_tuple_of [deedD (.tie i j w), .int 4] M = some (.bl true, M) := t4
    have i0 : oIx M (deedD (.tie i j w)) (.int 0) = some (.str "tie") := at0 _ _
    have i1 : oIx M (deedD (.tie i j w)) (.int 1) = some (.int i) := at1 _ _ _
    have i2 : oIx M (deedD (.tie i j w)) (.int 2) = some (.int j) := at2 _ _ _ _
    have i3 : oIx M (deedD (.tie i j w)) (.int 3) = some (.str w) := atI_nat (j := 3) rfl
    have q : oEq M (.str "tie") (.str "takes") = some (.bl false) := rfl
    have q2 : oEq M (.str "tie") (.str "tie") = some (.bl true) := rfl
    have inn : oInX M (.str w) (.ct [(.str "know"), (.str "part"), (.str "turn")]) = some (.bl true) := in_words h6
    have tw := g_two_named l k i j h1 h2 h3 h4 h5 M
    generalize deedD (.tie i j w) = x at *
    simp only [B_p_is_deed_of, mSeq, mIfS, mB, mAnd, mOr, mNot, mSkip, mRet, mCall, mCons, mNil, mOp, mVar, mC, List.getElem?_cons_succ, List.getElem?_cons_zero, t', t4', i0, i1, i2, i3, q, q2, inn, tw, Bool.not_true]
theorem g_check_script (l k : Nat) (hk : namedB k) (dd : Deed) (ok : okDeed k dd) (M : MM) : G HasC.c (l + 8) .p_check_script [.int k, .tup [deedD dd]] M = some (.non, M) := by
  have d := g_is_deed_of l k dd ok M
  have it : G HasC.c (l + 5) .p_left_behind_item [.int k, deedD dd, .int 4, .int 29] M = some (.int 29, M) := by
    show mFun 4 (B_p_left_behind_item (G HasC.c (l + 4))) _ M = _
    have st : startD 4 [.int k, deedD dd, .int 4, .int 29] = [some (.int k), some (deedD dd), some (.int 4), some (.int 29)] := rfl
    generalize deedD dd = x at *
    unfold mFun
    rw [st]
    simp only [B_p_left_behind_item, mSeq, mIfS, mB, mRet, mCall, mCons, mNil, mVar, List.getElem?_cons_succ, List.getElem?_cons_zero, d]
  have lb : G HasC.c (l + 6) .p_left_behind [.int k, .tup [deedD dd], .int 4, .int 30] M = some (.int 29, M) := by
    show mFun 5 (B_p_left_behind (G HasC.c (l + 5))) _ M = _
    have st : startD 5 [.int k, .tup [deedD dd], .int 4, .int 30] = [some (.int k), some (.tup [deedD dd]), some (.int 4), some (.int 30), none] := rfl
    generalize deedD dd = x at *
    have ol : oLen M [.tup [x]] = some (.int 1) := rfl
    have og : oGt M (.int 1) (.int 30) = some (.bl false) := rfl
    have os : oSub M (.int 30) (.int 1) = some (.int 29) := rfl
    have is : mIs "tuple" (mVar 1) [some (.int k), some (.tup [x]), some (.int 4), some (.int 30), none] M = some (.bl true, M) := rfl
    unfold mFun
    rw [st]
    simp only [B_p_left_behind, mSeq, mIfS, mB, mOr, mNot, is, mSkip, mRet, mAsg, mFor, itemsT, forD, tgName, mCall, mCons, mNil, mFn, mOp, mVar, List.getElem?_cons_succ, List.getElem?_cons_zero, List.set_cons_succ, List.set_cons_zero, Bool.not_true, ol, og, os, it]
  have sc : G HasC.c (l + 7) .p_is_script_of [.int k, .tup [deedD dd]] M = some (.bl true, M) := by
    show mFun 2 (B_p_is_script_of (G HasC.c (l + 6))) _ M = _
    have st : startD 2 [.int k, .tup [deedD dd]] = [some (.int k), some (.tup [deedD dd])] := rfl
    have og : oGe M (.int 29) (.int 0) = some (.bl true) := rfl
    generalize deedD dd = x at *
    unfold mFun
    rw [st]
    simp only [B_p_is_script_of, mRet, mOp, mCall, mCons, mNil, mVar, mC, List.getElem?_cons_succ, List.getElem?_cons_zero, lb, og]
  have cn := g_check_named hk (l + 4) M
  show mFun 2 (B_p_check_script (G HasC.c (l + 7))) _ M = _
  have st : startD 2 [.int k, .tup [deedD dd]] = [some (.int k), some (.tup [deedD dd])] := rfl
  generalize deedD dd = x at *
  unfold mFun
  rw [st]
  simp only [B_p_check_script, mSeq, mDrop, mIfS, mB, mNot, mSkip, mCall, mCons, mNil, mVar, List.getElem?_cons_succ, List.getElem?_cons_zero, cn, sc, Bool.not_true]
theorem g_done {kk n : Nat} {ts : List (Int × Int)} (co : Co kk n ts) (nd : ts.Nodup) (l : Nat) (dd : Deed) (ok : okDeed kk dd) (a b : Int) : G HasC.c (l + 9) .p_done [.int kk, cD n ts, .tup [deedD dd]] [cup a b] = some (cD n ((allP n).filter (outC n (fun p => decide (p ∈ ts)) dd)), [cup a b]) := by
  show mFun 3 (B_p_done (G HasC.c (l + 8))) _ _ = _
  have c1 := g_check_company co.nm (l + 2) (cD n ts) [cup a b] (good_cD (by have := co.len; omega)) co.co
  have c2 := g_check_script l kk co.nm dd ok [cup a b]
  have c3 := g_company_done co nd (l + 1) dd ok a b
  have st : startD 3 [.int kk, cD n ts, .tup [deedD dd]] = [some (.int kk), some (cD n ts), some (.tup [deedD dd])] := rfl
  generalize deedD dd = x at *
  generalize cD n ts = y at *
  unfold mFun
  rw [st]
  simp only [B_p_done, mSeq, mDrop, mRet, mCall, mCons, mNil, mVar, List.getElem?_cons_succ, List.getElem?_cons_zero, c1, c2, c3]
end MT

namespace MT
open PySem PySem.Spec PyProof.Rows L2 NL
variable [HasC]
/-! ### what the law says of each pair -/
def bhK (cl : Fid → FC) : FS := (mAsg (mCall (cl .Lknows) (mCons (mVar 0) (mCons (mVar 3) (mCons (mVar 4) mNil)))) (tgName 5))
def bhT1 : FB := (mB (mAnd (mOp oEq (mOp oIx (mVar 1) (mC (.int 0))) (mC (.str "pairs"))) (mOp oNotInX (mOp oIx (mVar 1) (mC (.int 1))) (mTup (mCons (mVar 3) (mCons (mVar 4) mNil))))))
def bhP (cl : Fid → FC) : FS := (mSeq (mAsg (mCountE (mLc itemsT (mTup (mCons (mVar 3) (mCons (mVar 4) mNil))) (tgName 8) mYes (mCall (cl .Lknows) (mCons (mVar 0) (mCons (mOp oIx (mVar 1) (mC (.int 1))) (mCons (mVar 8) mNil)))) [8]) (mC (.bl true))) (tgName 6)) (mAsg (mOp oEq (mOp oIx (mOp oIx (mVar 1) (mC (.int 2))) (mOp oAdd (mIf (mVar 5) (mC (.int 3)) (mC (.int 0))) (mVar 6))) (mC (.int 1))) (tgName 5)))
def bhT2 : FB := (mB (mAnd (mOp oEq (mOp oIx (mVar 1) (mC (.int 0))) (mC (.str "takes"))) (mAnd (mOp oInX (mOp oIx (mVar 1) (mC (.int 1))) (mTup (mCons (mVar 3) (mCons (mVar 4) mNil)))) (mOp oNotInX (mOp oIx (mVar 1) (mC (.int 2))) (mTup (mCons (mVar 3) (mCons (mVar 4) mNil)))))))
def bhG (cl : Fid → FC) : FS := (mSeq (mAsg (mIf (mOp oEq (mOp oIx (mVar 1) (mC (.int 1))) (mVar 3)) (mVar 4) (mVar 3)) (tgName 7)) (mAsg (mOp oEq (mOp oIx (mOp oIx (mVar 1) (mC (.int 3))) (mOp oAdd (mIf (mVar 5) (mC (.int 2)) (mC (.int 0))) (mIf (mCall (cl .Lknows) (mCons (mVar 0) (mCons (mOp oIx (mVar 1) (mC (.int 2))) (mCons (mVar 7) mNil)))) (mC (.int 1)) (mC (.int 0))))) (mC (.int 1))) (tgName 5)))
def bhT3 (cl : Fid → FC) : FB := (mB (mAnd (mOp oEq (mOp oIx (mVar 1) (mC (.int 0))) (mC (.str "tie"))) (mOp oEq (mCall (cl .Ltwo) (mCons (mOp oIx (mVar 1) (mC (.int 1))) (mCons (mOp oIx (mVar 1) (mC (.int 2))) mNil))) (mTup (mCons (mVar 3) (mCons (mVar 4) mNil))))))
def bhW : FS := (mAsg (mOp oIxX (mDisp (.dk [] []) [((mC (.str "know")), (mC (.bl true))), ((mC (.str "part")), (mC (.bl false))), ((mC (.str "turn")), (mNot (mVar 5)))]) (mOp oIx (mVar 1) (mC (.int 3)))) (tgName 5))
def bhA : FS := (mIfS (mB (mVar 5)) (mDrop (mAppE (mVar 2) (mTup (mCons (mVar 3) (mCons (mVar 4) mNil))))) mSkip)
def bhI (cl : Fid → FC) : FS := mIfS bhT1 (bhP cl) (mIfS bhT2 (bhG cl) (mIfS (bhT3 cl) bhW mSkip))
theorem lb_eq (cl : Fid → FC) : B_Lbehind cl = mNew 2 (mLst mNil) (mSeq (mFor itemsL (mCall (cl .Lpairs) (mCons (mOp oIx (mVar 0) (mC (.int 0))) mNil)) (tgTup 2 (tgCons (tgName 3) (tgCons (tgName 4) tgNil))) (mSeq (bhK cl) (mSeq (bhI cl) bhA))) (mRet (mTup (mCons (mOp oIx (mVar 0) (mC (.int 0))) (mCons (mFn oTuple (mCons (mVar 2) mNil)) mNil))))) := rfl
theorem okD_i (d : Int) : okD (.int d) = true := okD_of (n := 0) rfl (by decide)
theorem in_two (d x y : Int) (M : MM) : oInX M (.int d) (.tup [.int x, .int y]) = some (.bl ((x == d) || (y == d))) := by
  have h1 : okD (.tup [.int x, .int y]) = true := okD_of (n := 1) (by simp [good]) (by decide)
  show (if (okD (.int d) && okD (.tup [.int x, .int y])) = true then some (D.bl (anyEq (.int d) [.int x, .int y])) else none) = _
  rw [h1, okD_i, if_pos (show (true && true) = true from rfl)]
  have : anyEq (.int d) [.int x, .int y] = ((x == d) || ((y == d) || false)) := rfl
  rw [this, Bool.or_false]
theorem notin_two (d x y : Int) (M : MM) : oNotInX M (.int d) (.tup [.int x, .int y]) = some (.bl (!((x == d) || (y == d)))) := by
  have h1 : okD (.tup [.int x, .int y]) = true := okD_of (n := 1) (by simp [good]) (by decide)
  have e : oIn M (.int d) (.tup [.int x, .int y]) = some (.bl ((x == d) || (y == d))) := by
    show (if (okD (.int d) && okD (.tup [.int x, .int y])) = true then some (D.bl (anyEq (.int d) [.int x, .int y])) else none) = _
    rw [h1, okD_i, if_pos (show (true && true) = true from rfl)]
    have : anyEq (.int d) [.int x, .int y] = ((x == d) || ((y == d) || false)) := rfl
    rw [this, Bool.or_false]
  show (match oIn M (.int d) (.tup [.int x, .int y]) with | some (.bl b) => some (D.bl (!b)) | _ => none) = _
  rw [e]
theorem eq_pairs (p q : Int × Int) (M : MM) : oEq M (pD p) (.tup [.int q.1, .int q.2]) = some (.bl (decide (q = p))) := by
  have o : ∀ p, okD (pD p) = true := fun p => okD_of (n := 1) (by simp [good, pD]) (by decide)
  have e : oEqv (pD p) (pD q) = decide (q = p) := by
    show ((p.1 == q.1) && ((p.2 == q.2) && true)) = _
    rw [Bool.and_true, Bool.eq_iff_iff, Bool.and_eq_true, beq_iff_eq, beq_iff_eq, decide_eq_true_iff]
    constructor
    · rintro ⟨h1, h2⟩
      exact Prod.ext h1.symm h2.symm
    · rintro rfl
      exact ⟨rfl, rfl⟩
  show (if (okD (pD p) && okD (pD q)) = true then some (D.bl (oEqv (pD p) (pD q))) else none) = _
  rw [o, o, if_pos (show (true && true) = true from rfl), e]
theorem ix_ans (as : List Bool) (j : Nat) (h : j < as.length) (M : MM) : oIx M (ansD as) (.int j) = some (.int (b2i (as.getD j false))) := by
  have e : (as.map fun a => D.int (b2i a))[j]? = some (.int (b2i (as.getD j false))) := by
    rw [List.getElem?_map, List.getD_eq_getElem?_getD, List.getElem?_eq_getElem h]
    rfl
  exact atI_nat e
theorem eq_one (b : Bool) (M : MM) : oEq M (.int (b2i b)) (.int 1) = some (.bl b) := by cases b <;> rfl
def bhE (n : Nat) (ts : List (Int × Int)) (dd : D) (p : Int × Int) (e5 e6 e7 e8 : Option D) : En := [some (cD n ts), some dd, some (.mu 1), some (.int p.1), some (.int p.2), e5, e6, e7, e8]
theorem g_kn (l : Nat) (n : Nat) (ts : List (Int × Int)) (hl : ts.length ≤ 1000) (i j : Int) (M : MM) : G HasC.c (l + 2) .Lknows [cD n ts, .int i, .int j] M = some (.bl (decide (prD i j ∈ ts)), M) := g_knows l n i j ts M hl
theorem bh_A (n : Nat) (ts l : List (Int × Int)) (hll : l.length ≤ 1000) (dd x : D) (p : Int × Int) (b : Bool) (e6 e7 e8 : Option D) :
    bhA (bhE n ts dd p (some (.bl b)) e6 e7 e8) [x, .lst (l.map pD)] = some (.nx (bhE n ts dd p (some (.bl b)) e6 e7 e8), [x, .lst ((if b = true then l ++ [p] else l).map pD)]) := by
  cases b with
  | false => rfl
  | true =>
    have ap : mApp [x, .lst (l.map pD)] (.mu 1) (.tup [.int p.1, .int p.2]) = some [x, .lst (l.map pD ++ [pD p])] := by
      show (if (l.map pD).length ≤ 1000 then some ([x, D.lst (l.map pD)].set 1 (.lst (l.map pD ++ [pD p]))) else none) = _
      rw [if_pos (by rw [List.length_map]; exact hll)]
      rfl
    rw [if_pos rfl, List.map_append]
    generalize l.map pD = ds at *
    show bhA (bhE n ts dd p (some (.bl true)) e6 e7 e8) [x, .lst ds] = some (.nx (bhE n ts dd p (some (.bl true)) e6 e7 e8), [x, .lst (ds ++ [pD p])])
    generalize cD n ts = cc at *
    simp only [bhA, bhE, mIfS, mB, mDrop, mAppE, mVar, mTup, mCons, mNil, List.getElem?_cons_succ, List.getElem?_cons_zero, ap]
theorem cnt2 (f s : Bool) : countIn (.bool true) ([f, s].map PyData.bool) = b2i f + b2i s := by cases f <;> cases s <;> rfl
theorem idx6 (w f s : Bool) : ∃ j : Nat, j < 6 ∧ (if w = true then (3 : Int) else 0) + (b2i f + b2i s) = (j : Int) ∧ j = (if w = true then 3 else 0) + (b2i f + b2i s).toNat := by
  cases w <;> cases f <;> cases s
  · exact ⟨0, by decide, by decide, by decide⟩
  · exact ⟨1, by decide, by decide, by decide⟩
  · exact ⟨1, by decide, by decide, by decide⟩
  · exact ⟨2, by decide, by decide, by decide⟩
  · exact ⟨3, by decide, by decide, by decide⟩
  · exact ⟨4, by decide, by decide, by decide⟩
  · exact ⟨4, by decide, by decide, by decide⟩
  · exact ⟨5, by decide, by decide, by decide⟩
theorem bh_pairs (l n : Nat) (ts : List (Int × Int)) (hl : ts.length ≤ 1000) (d : Int) (as : List Bool) (ha : as.length = 6) (p : Int × Int) (e6 e7 e8 : Option D) (M : MM) :
    ∃ f6 f8 : Option D, bhI (G HasC.c (l + 2)) (bhE n ts (deedD (.pairs d as)) p (some (.bl (decide (p ∈ ts)))) e6 e7 e8) M = some (.nx (bhE n ts (deedD (.pairs d as)) p (some (.bl (pairsC d as (fun p => decide (p ∈ ts)) p))) f6 e7 f8), M) := by
  have i0 : ∀ M, oIx M (deedD (.pairs d as)) (.int 0) = some (.str "pairs") := fun _ => at0 _ _
  have i1 : ∀ M, oIx M (deedD (.pairs d as)) (.int 1) = some (.int d) := fun _ => at1 _ _ _
  have i2 : ∀ M, oIx M (deedD (.pairs d as)) (.int 2) = some (ansD as) := fun _ => at2 _ _ _ _
  have q1 : ∀ M, oEq M (.str "pairs") (.str "pairs") = some (.bl true) := fun _ => rfl
  have q2 : ∀ M, oEq M (.str "pairs") (.str "takes") = some (.bl false) := fun _ => rfl
  have q3 : ∀ M, oEq M (.str "pairs") (.str "tie") = some (.bl false) := fun _ => rfl
  have ni := notin_two d p.1 p.2
  have eo : (!((p.1 == d) || (p.2 == d))) = offD d p := by
    unfold offD
    rw [Bool.eq_iff_iff]
    simp
    constructor
    · rintro ⟨h1, h2⟩
      exact ⟨fun z => h1 z.symm, fun z => h2 z.symm⟩
    · rintro ⟨h1, h2⟩
      exact ⟨fun z => h1 z.symm, fun z => h2 z.symm⟩
  cases ho : offD d p with
  | false =>
    rw [ho] at eo
    refine ⟨e6, e8, ?_⟩
    unfold pairsC
    rw [ho, if_neg (by decide)]
    generalize deedD (.pairs d as) = x at *
    generalize cD n ts = cc at *
    simp only [bhI, bhT1, bhT2, bhT3, bhE, mIfS, mB, mAnd, mSkip, mOp, mTup, mCons, mNil, mVar, mC, List.getElem?_cons_succ, List.getElem?_cons_zero, i0, i1, q1, q2, q3, ni, eo]
  | true =>
    rw [ho] at eo
    have t1 : bhT1 (bhE n ts (deedD (.pairs d as)) p (some (.bl (decide (p ∈ ts)))) e6 e7 e8) M = some (true, M) := by
      generalize deedD (.pairs d as) = x at *
      generalize cD n ts = cc at *
      simp only [bhT1, bhE, mB, mAnd, mOp, mTup, mCons, mNil, mVar, mC, List.getElem?_cons_succ, List.getElem?_cons_zero, i0, i1, q1, ni, eo]
    have k1 := g_kn l n ts hl d p.1 M
    have k2 := g_kn l n ts hl d p.2 M
    obtain ⟨j, hj, ej, ej2⟩ := idx6 (decide (p ∈ ts)) (decide (prD d p.1 ∈ ts)) (decide (prD d p.2 ∈ ts))
    have ia := ix_ans as j (by omega) M
    have cn := cnt2 (decide (prD d p.1 ∈ ts)) (decide (prD d p.2 ∈ ts))
    have hv : pairsC d as (fun p => decide (p ∈ ts)) p = as.getD j false := by
      unfold pairsC pC pairC
      rw [ho, if_pos rfl, ej2]
    rw [hv]
    refine ⟨some (.int (b2i (decide (prD d p.1 ∈ ts)) + b2i (decide (prD d p.2 ∈ ts)))), e8, ?_⟩
    unfold bhI
    rw [mIfS_true' t1]
    have c1 : mAsg (mCountE (mLc itemsT (mTup (mCons (mVar 3) (mCons (mVar 4) mNil))) (tgName 8) mYes (mCall (G HasC.c (l + 2) .Lknows) (mCons (mVar 0) (mCons (mOp oIx (mVar 1) (mC (.int 1))) (mCons (mVar 8) mNil)))) [8]) (mC (.bl true))) (tgName 6) (bhE n ts (deedD (.pairs d as)) p (some (.bl (decide (p ∈ ts)))) e6 e7 e8) M =
        some (.nx (bhE n ts (deedD (.pairs d as)) p (some (.bl (decide (p ∈ ts)))) (some (.int (b2i (decide (prD d p.1 ∈ ts)) + b2i (decide (prD d p.2 ∈ ts))))) e7 e8), M) := by
      generalize deedD (.pairs d as) = x at *
      generalize decide (prD d p.1 ∈ ts) = f0 at *
      generalize decide (prD d p.2 ∈ ts) = g0 at *
      have bo : boolsOf [.bl f0, .bl g0] = some [f0, g0] := rfl
      have few : ([D.int p.1, .int p.2]).length ≤ 1000 := by simp
      simp only [mAsg, mCountE, mLc, itemsT, mTup, mCons, mNil, bhE, wipeD, lcD, mYes, mCall, mOp, mVar, mC, tgName, List.getElem?_cons_succ, List.getElem?_cons_zero, List.set_cons_succ, List.set_cons_zero, few, if_true, i1, k1, k2, bo, cn]
    have c2 : ∀ y8, mAsg (mOp oEq (mOp oIx (mOp oIx (mVar 1) (mC (.int 2))) (mOp oAdd (mIf (mVar 5) (mC (.int 3)) (mC (.int 0))) (mVar 6))) (mC (.int 1))) (tgName 5) (bhE n ts (deedD (.pairs d as)) p (some (.bl (decide (p ∈ ts)))) (some (.int (b2i (decide (prD d p.1 ∈ ts)) + b2i (decide (prD d p.2 ∈ ts))))) e7 y8) M =
        some (.nx (bhE n ts (deedD (.pairs d as)) p (some (.bl (as.getD j false))) (some (.int (b2i (decide (prD d p.1 ∈ ts)) + b2i (decide (prD d p.2 ∈ ts))))) e7 y8), M) := fun y8 => by
      generalize deedD (.pairs d as) = x at *
      generalize cD n ts = cc at *
      generalize b2i (decide (prD d p.1 ∈ ts)) + b2i (decide (prD d p.2 ∈ ts)) = fg at *
      have eo1 := eq_one (as.getD j false) M
      generalize ansD as = aa at *
      cases hw : decide (p ∈ ts) with
      | true =>
        rw [hw, if_pos rfl] at ej
        have ad : oAdd M (.int 3) (.int fg) = some (.int j) := by
          show some (D.int (3 + fg)) = _
          rw [ej]
        simp only [mAsg, mOp, mIf, mVar, mC, bhE, tgName, List.getElem?_cons_succ, List.getElem?_cons_zero, List.set_cons_succ, List.set_cons_zero, i2, ad, ia, eo1]
      | false =>
        rw [hw, if_neg (by decide)] at ej
        have ad : oAdd M (.int 0) (.int fg) = some (.int j) := by
          show some (D.int (0 + fg)) = _
          rw [ej]
        simp only [mAsg, mOp, mIf, mVar, mC, bhE, tgName, List.getElem?_cons_succ, List.getElem?_cons_zero, List.set_cons_succ, List.set_cons_zero, i2, ad, ia, eo1]
    unfold bhP
    rw [mSeq_nx' c1, c2]
end MT

namespace MT
open PySem PySem.Spec PyProof.Rows L2 NL
variable [HasC]
theorem idx4 (w t : Bool) : ∃ j : Nat, j < 4 ∧ (if w = true then (2 : Int) else 0) + (if t = true then (1 : Int) else 0) = (j : Int) ∧ j = (if w = true then 2 else 0) + (b2i t).toNat := by
  cases w <;> cases t
  · exact ⟨0, by decide, by decide, by decide⟩
  · exact ⟨1, by decide, by decide, by decide⟩
  · exact ⟨2, by decide, by decide, by decide⟩
  · exact ⟨3, by decide, by decide, by decide⟩
def inTk (i j : Int) (p : Int × Int) : Bool := ((p.1 == i) || (p.2 == i)) && !((p.1 == j) || (p.2 == j))
theorem mem_takL {n : Nat} {i j : Int} {p : Int × Int} (hp : p ∈ allP n) (hij : i ≠ j) : p ∈ takL n i j ↔ inTk i j p = true := by
  obtain ⟨o1, o2, o3⟩ := mem_allP.mp hp
  unfold takL inTk
  simp only [List.mem_map, List.mem_filter, List.mem_range, off2, Bool.and_eq_true, Bool.not_eq_true', beq_eq_false_iff_ne, Bool.or_eq_true, beq_iff_eq, Bool.or_eq_false_iff]
  constructor
  · rintro ⟨m, ⟨h1, h2, h3⟩, rfl⟩
    unfold prD lo2 hi2
    by_cases e : i < (m : Int)
    · rw [if_pos e, if_pos e]
      exact ⟨.inl rfl, hij, h3⟩
    · rw [if_neg e, if_neg e]
      exact ⟨.inr rfl, h3, hij⟩
  · rintro ⟨h1 | h1, h2, h3⟩
    · refine ⟨p.2.toNat, ⟨by omega, by omega, by omega⟩, ?_⟩
      have e : ((p.2.toNat : Nat) : Int) = p.2 := by omega
      rw [e, ← h1]
      exact prD_self o2
    · refine ⟨p.1.toNat, ⟨by omega, by omega, by omega⟩, ?_⟩
      have e : ((p.1.toNat : Nat) : Int) = p.1 := by omega
      rw [e, ← h1]
      unfold prD lo2 hi2
      rw [if_neg (by omega), if_neg (by omega)]
theorem bh_takes (l n : Nat) (ts : List (Int × Int)) (hl : ts.length ≤ 1000) (i j : Int) (hij : i ≠ j) (as : List Bool) (ha : as.length = 4) (p : Int × Int) (hp : p ∈ allP n) (e6 e7 e8 : Option D) (M : MM) :
    ∃ f7 : Option D, bhI (G HasC.c (l + 2)) (bhE n ts (deedD (.takes i j as)) p (some (.bl (decide (p ∈ ts)))) e6 e7 e8) M = some (.nx (bhE n ts (deedD (.takes i j as)) p (some (.bl (takesC n i j as (fun p => decide (p ∈ ts)) p))) e6 f7 e8), M) := by
  have i0 : ∀ M, oIx M (deedD (.takes i j as)) (.int 0) = some (.str "takes") := fun _ => at0 _ _
  have i1 : ∀ M, oIx M (deedD (.takes i j as)) (.int 1) = some (.int i) := fun _ => at1 _ _ _
  have i2 : ∀ M, oIx M (deedD (.takes i j as)) (.int 2) = some (.int j) := fun _ => at2 _ _ _ _
  have i3 : ∀ M, oIx M (deedD (.takes i j as)) (.int 3) = some (ansD as) := fun _ => atI_nat (j := 3) rfl
  have q1 : ∀ M, oEq M (.str "takes") (.str "pairs") = some (.bl false) := fun _ => rfl
  have q2 : ∀ M, oEq M (.str "takes") (.str "takes") = some (.bl true) := fun _ => rfl
  have q3 : ∀ M, oEq M (.str "takes") (.str "tie") = some (.bl false) := fun _ => rfl
  have ni := notin_two j p.1 p.2
  have yi := in_two i p.1 p.2
  have mt := mem_takL hp hij
  have t1 : ∀ y, bhT1 (bhE n ts (deedD (.takes i j as)) p y e6 e7 e8) M = some (false, M) := fun y => by
    generalize deedD (.takes i j as) = x at *
    simp only [bhT1, bhE, mB, mAnd, mOp, mVar, mC, List.getElem?_cons_succ, List.getElem?_cons_zero, i0, q1]
  have t2 : ∀ y, bhT2 (bhE n ts (deedD (.takes i j as)) p y e6 e7 e8) M = some (inTk i j p, M) := fun y => by
    generalize deedD (.takes i j as) = x at *
    unfold inTk
    cases h1 : ((p.1 == i) || (p.2 == i)) with
    | true => simp only [bhT2, bhE, mB, mAnd, mOp, mTup, mCons, mNil, mVar, mC, List.getElem?_cons_succ, List.getElem?_cons_zero, i0, i1, i2, q2, yi, ni, h1, Bool.true_and]
    | false => simp only [bhT2, bhE, mB, mAnd, mOp, mTup, mCons, mNil, mVar, mC, List.getElem?_cons_succ, List.getElem?_cons_zero, i0, i1, q2, yi, h1, Bool.false_and]
  cases hc : inTk i j p with
  | false =>
    rw [hc] at t2
    have t3 : ∀ y, bhT3 (G HasC.c (l + 2)) (bhE n ts (deedD (.takes i j as)) p y e6 e7 e8) M = some (false, M) := fun y => by
      generalize deedD (.takes i j as) = x at *
      simp only [bhT3, bhE, mB, mAnd, mOp, mVar, mC, List.getElem?_cons_succ, List.getElem?_cons_zero, i0, q3]
    refine ⟨e7, ?_⟩
    unfold takesC
    rw [if_neg fun z => by rw [mt.mp z] at hc; cases hc]
    unfold bhI mIfS
    rw [t1]
    simp only []
    rw [t2]
    simp only []
    rw [t3]
    rfl
  | true =>
    rw [hc] at t2
    have k1 := g_kn l n ts hl j (othD i p) M
    obtain ⟨jj, hj, ej, ej2⟩ := idx4 (decide (p ∈ ts)) (decide (prD j (othD i p) ∈ ts))
    have ia := ix_ans as jj (by omega) M
    have hv : takesC n i j as (fun p => decide (p ∈ ts)) p = as.getD jj false := by
      unfold takesC tC takeC
      rw [if_pos (mt.mpr hc), ej2]
    rw [hv]
    refine ⟨some (.int (othD i p)), ?_⟩
    unfold bhI
    unfold mIfS
    rw [t1]
    simp only []
    rw [t2]
    simp only []
    have c1 : mAsg (mIf (mOp oEq (mOp oIx (mVar 1) (mC (.int 1))) (mVar 3)) (mVar 4) (mVar 3)) (tgName 7) (bhE n ts (deedD (.takes i j as)) p (some (.bl (decide (p ∈ ts)))) e6 e7 e8) M = some (.nx (bhE n ts (deedD (.takes i j as)) p (some (.bl (decide (p ∈ ts)))) e6 (some (.int (othD i p))) e8), M) := by
      have oe : ∀ M, oEq M (.int i) (.int p.1) = some (.bl (i == p.1)) := fun _ => rfl
      generalize deedD (.takes i j as) = x at *
      unfold othD
      by_cases h : p.1 = i
      · have : (i == p.1) = true := by simpa using h.symm
        rw [if_pos h]
        simp only [mAsg, mIf, mOp, mVar, mC, bhE, tgName, List.getElem?_cons_succ, List.getElem?_cons_zero, List.set_cons_succ, List.set_cons_zero, i1, oe, this]
      · have : (i == p.1) = false := by simpa using fun z => h z.symm
        rw [if_neg h]
        simp only [mAsg, mIf, mOp, mVar, mC, bhE, tgName, List.getElem?_cons_succ, List.getElem?_cons_zero, List.set_cons_succ, List.set_cons_zero, i1, oe, this]
    have c2 : mAsg (mOp oEq (mOp oIx (mOp oIx (mVar 1) (mC (.int 3))) (mOp oAdd (mIf (mVar 5) (mC (.int 2)) (mC (.int 0))) (mIf (mCall (G HasC.c (l + 2) .Lknows) (mCons (mVar 0) (mCons (mOp oIx (mVar 1) (mC (.int 2))) (mCons (mVar 7) mNil)))) (mC (.int 1)) (mC (.int 0))))) (mC (.int 1))) (tgName 5) (bhE n ts (deedD (.takes i j as)) p (some (.bl (decide (p ∈ ts)))) e6 (some (.int (othD i p))) e8) M =
        some (.nx (bhE n ts (deedD (.takes i j as)) p (some (.bl (as.getD jj false))) e6 (some (.int (othD i p))) e8), M) := by
      have eo1 := eq_one (as.getD jj false) M
      generalize deedD (.takes i j as) = x at *
      generalize ansD as = aa at *
      cases hw : decide (p ∈ ts) <;> cases hg : decide (prD j (othD i p) ∈ ts) <;> rw [hw, hg] at ej <;> rw [hg] at k1 <;> simp only [if_true, Bool.false_eq_true, if_false] at ej
      all_goals
        have ad : ∀ u v : Int, u + v = (jj : Int) → oAdd M (.int u) (.int v) = some (.int jj) := fun u v e => by
          show some (D.int (u + v)) = _
          rw [e]
        simp only [mAsg, mOp, mIf, mCall, mCons, mNil, mVar, mC, bhE, tgName, List.getElem?_cons_succ, List.getElem?_cons_zero, List.set_cons_succ, List.set_cons_zero, i2, i3, k1, ad _ _ ej, ia, eo1]
    unfold bhG
    rw [mSeq_nx' c1, c2]
theorem disp_w (k : Bool) : stO (.dk [] []) [(.str "know", .bl true), (.str "part", .bl false), (.str "turn", .bl (!k))] = some (.dk [.inr "know", .inr "part", .inr "turn"] [.bl true, .bl false, .bl (!k)]) := rfl
theorem ix_w (k : Bool) (w : Str) (hw : w = "know" ∨ w = "part" ∨ w = "turn") (M : MM) : oIxX M (.dk [.inr "know", .inr "part", .inr "turn"] [.bl true, .bl false, .bl (!k)]) (.str w) = some (.bl (tieC w k)) := by
  rcases hw with rfl | rfl | rfl
  · rw [t_know]
    rfl
  · rw [t_part]
    rfl
  · rw [t_turn]
    rfl
theorem bh_tie (l n : Nat) (ts : List (Int × Int)) (i j : Int) (w : Str) (hw : w = "know" ∨ w = "part" ∨ w = "turn") (p : Int × Int) (e6 e7 e8 : Option D) (M : MM) :
    bhI (G HasC.c (l + 2)) (bhE n ts (deedD (.tie i j w)) p (some (.bl (decide (p ∈ ts)))) e6 e7 e8) M = some (.nx (bhE n ts (deedD (.tie i j w)) p (some (.bl (if p = prD i j then tieC w (decide (p ∈ ts)) else decide (p ∈ ts)))) e6 e7 e8), M) := by
  have i0 : ∀ M, oIx M (deedD (.tie i j w)) (.int 0) = some (.str "tie") := fun _ => at0 _ _
  have i1 : ∀ M, oIx M (deedD (.tie i j w)) (.int 1) = some (.int i) := fun _ => at1 _ _ _
  have i2 : ∀ M, oIx M (deedD (.tie i j w)) (.int 2) = some (.int j) := fun _ => at2 _ _ _ _
  have i3 : ∀ M, oIx M (deedD (.tie i j w)) (.int 3) = some (.str w) := fun _ => atI_nat (j := 3) rfl
  have q1 : ∀ M, oEq M (.str "tie") (.str "pairs") = some (.bl false) := fun _ => rfl
  have q2 : ∀ M, oEq M (.str "tie") (.str "takes") = some (.bl false) := fun _ => rfl
  have q3 : ∀ M, oEq M (.str "tie") (.str "tie") = some (.bl true) := fun _ => rfl
  have tw := g_two (l + 1) i j M
  have eq := eq_pairs (prD i j) p M
  have dw := disp_w (decide (p ∈ ts))
  have iw := ix_w (decide (p ∈ ts)) w hw M
  generalize deedD (.tie i j w) = x at *
  generalize decide (p ∈ ts) = c at *
  by_cases h : p = prD i j
  · rw [decide_eq_true h] at eq
    rw [if_pos h]
    generalize pD (prD i j) = y at *
    have wv : bhW (bhE n ts x p (some (.bl c)) e6 e7 e8) M = some (.nx (bhE n ts x p (some (.bl (tieC w c))) e6 e7 e8), M) := by
      simp only [bhW, bhE, mAsg, mOp, mDisp, mPairs, mNot, mVar, mC, tgName, List.getElem?_cons_succ, List.getElem?_cons_zero, List.set_cons_succ, List.set_cons_zero, dw, i3, iw]
    have t3 : bhT3 (G HasC.c (l + 2)) (bhE n ts x p (some (.bl c)) e6 e7 e8) M = some (true, M) := by
      simp only [bhT3, bhE, mB, mAnd, mOp, mCall, mTup, mCons, mNil, mVar, mC, List.getElem?_cons_succ, List.getElem?_cons_zero, i0, i1, i2, q3, tw, eq]
    have t1 : bhT1 (bhE n ts x p (some (.bl c)) e6 e7 e8) M = some (false, M) := by
      simp only [bhT1, bhE, mB, mAnd, mOp, mVar, mC, List.getElem?_cons_succ, List.getElem?_cons_zero, i0, q1]
    have t2 : bhT2 (bhE n ts x p (some (.bl c)) e6 e7 e8) M = some (false, M) := by
      simp only [bhT2, bhE, mB, mAnd, mOp, mVar, mC, List.getElem?_cons_succ, List.getElem?_cons_zero, i0, q2]
    unfold bhI mIfS
    rw [t1]
    simp only []
    rw [t2]
    simp only []
    rw [t3]
    exact wv
  · rw [decide_eq_false h] at eq
    rw [if_neg h]
    generalize pD (prD i j) = y at *
    simp only [bhI, bhT1, bhT2, bhT3, bhE, mIfS, mB, mAnd, mSkip, mOp, mCall, mTup, mCons, mNil, mVar, mC, List.getElem?_cons_succ, List.getElem?_cons_zero, i0, i1, i2, q1, q2, q3, tw, eq]
/-- the turns of the law's working out -/
theorem bh_step (l n : Nat) (ts : List (Int × Int)) (hl : ts.length ≤ 1000) (kk : Nat) (dd : Deed) (ok : okDeed kk dd) (x : D) (fl : List (Int × Int)) (hll : fl.length ≤ 1000) (p : Int × Int) (hp : p ∈ allP n) (e5 e6 e7 e8 : Option D) :
    ∃ f5 f6 f7 f8 : Option D, mSeq (bhK (G HasC.c (l + 2))) (mSeq (bhI (G HasC.c (l + 2))) bhA) (bhE n ts (deedD dd) p e5 e6 e7 e8) [x, .lst (fl.map pD)] =
      some (.nx (bhE n ts (deedD dd) p f5 f6 f7 f8), [x, .lst ((if outC n (fun p => decide (p ∈ ts)) dd p = true then fl ++ [p] else fl).map pD)]) := by
  have o2 := (mem_allP.mp hp).2.1
  have k0 := g_kn l n ts hl p.1 p.2 [x, .lst (fl.map pD)]
  rw [prD_self o2] at k0
  have s1 : bhK (G HasC.c (l + 2)) (bhE n ts (deedD dd) p e5 e6 e7 e8) [x, .lst (fl.map pD)] = some (.nx (bhE n ts (deedD dd) p (some (.bl (decide (p ∈ ts)))) e6 e7 e8), [x, .lst (fl.map pD)]) := by
    generalize deedD dd = y at *
    simp only [bhK, bhE, mAsg, mCall, mCons, mNil, mVar, tgName, List.getElem?_cons_succ, List.getElem?_cons_zero, List.set_cons_succ, List.set_cons_zero, k0]
  have s2 : ∃ f6 f7 f8 : Option D, bhI (G HasC.c (l + 2)) (bhE n ts (deedD dd) p (some (.bl (decide (p ∈ ts)))) e6 e7 e8) [x, .lst (fl.map pD)] = some (.nx (bhE n ts (deedD dd) p (some (.bl (outC n (fun p => decide (p ∈ ts)) dd p))) f6 f7 f8), [x, .lst (fl.map pD)]) := by
    cases dd with
    | pairs d as =>
      obtain ⟨f6, f8, q⟩ := bh_pairs l n ts hl d as ok.2.2 p e6 e7 e8 [x, .lst (fl.map pD)]
      exact ⟨f6, e7, f8, q⟩
    | takes i j as =>
      obtain ⟨f7, q⟩ := bh_takes l n ts hl i j ok.2.2.2.2.1 as ok.2.2.2.2.2 p hp e6 e7 e8 [x, .lst (fl.map pD)]
      exact ⟨e6, f7, e8, q⟩
    | tie i j w => exact ⟨e6, e7, e8, bh_tie l n ts i j w ok.2.2.2.2.2 p e6 e7 e8 [x, .lst (fl.map pD)]⟩
  obtain ⟨f6, f7, f8, s2⟩ := s2
  refine ⟨some (.bl (outC n (fun p => decide (p ∈ ts)) dd p)), f6, f7, f8, ?_⟩
  rw [mSeq_nx' s1, mSeq_nx' s2]
  exact bh_A n ts fl hll (deedD dd) x p _ f6 f7 f8
end MT

namespace MT
open PySem PySem.Spec PyProof.Rows L2 NL
variable [HasC]
theorem bh_loop (l n : Nat) (ts : List (Int × Int)) (hl : ts.length ≤ 1000) (kk : Nat) (dd : Deed) (ok : okDeed kk dd) (x : D) : ∀ (ps fl : List (Int × Int)), (∀ p ∈ ps, p ∈ allP n) → fl.length + ps.length ≤ 1000 → ∀ e3 e4 e5 e6 e7 e8 : Option D, ∃ f3 f4 f5 f6 f7 f8 : Option D,
    forD (tgTup 2 (tgCons (tgName 3) (tgCons (tgName 4) tgNil))) (mSeq (bhK (G HasC.c (l + 2))) (mSeq (bhI (G HasC.c (l + 2))) bhA)) (ps.map pD) [some (cD n ts), some (deedD dd), some (.mu 1), e3, e4, e5, e6, e7, e8] [x, .lst (fl.map pD)] =
      some (.nx [some (cD n ts), some (deedD dd), some (.mu 1), f3, f4, f5, f6, f7, f8], [x, .lst ((fl ++ ps.filter (outC n (fun p => decide (p ∈ ts)) dd)).map pD)])
  | [], fl, _, _, e3, e4, e5, e6, e7, e8 => ⟨e3, e4, e5, e6, e7, e8, by
    rw [List.filter_nil, List.append_nil]
    rfl⟩
  | p :: ps, fl, hm, hll, e3, e4, e5, e6, e7, e8 => by
    simp only [List.length_cons] at hll
    obtain ⟨g5, g6, g7, g8, st⟩ := bh_step l n ts hl kk dd ok x fl (by omega) p (hm p List.mem_cons_self) e5 e6 e7 e8
    obtain ⟨f3, f4, f5, f6, f7, f8, q⟩ := bh_loop l n ts hl kk dd ok x ps (if outC n (fun p => decide (p ∈ ts)) dd p = true then fl ++ [p] else fl) (fun y hy => hm y (List.mem_cons_of_mem _ hy)) (by
      by_cases h : outC n (fun p => decide (p ∈ ts)) dd p = true
      · rw [if_pos h, List.length_append, List.length_singleton]
        omega
      · rw [if_neg h]
        omega) (some (.int p.1)) (some (.int p.2)) g5 g6 g7 g8
    refine ⟨f3, f4, f5, f6, f7, f8, ?_⟩
    have e : fl ++ (p :: ps).filter (outC n (fun p => decide (p ∈ ts)) dd) = (if outC n (fun p => decide (p ∈ ts)) dd p = true then fl ++ [p] else fl) ++ ps.filter (outC n (fun p => decide (p ∈ ts)) dd) := by
      by_cases h : outC n (fun p => decide (p ∈ ts)) dd p = true
      · rw [if_pos h, List.filter_cons_of_pos h]
        simp
      · rw [if_neg h, List.filter_cons_of_neg h]
    rw [e, ← q]
    show forD _ _ (pD p :: ps.map pD) _ _ = _
    rw [forD]
    have tg : tgTup 2 (tgCons (tgName 3) (tgCons (tgName 4) tgNil)) (pD p) [some (cD n ts), some (deedD dd), some (.mu 1), e3, e4, e5, e6, e7, e8] = some (bhE n ts (deedD dd) p e5 e6 e7 e8) := rfl
    rw [tg]
    dsimp only
    rw [st]
    rfl
theorem pD_clean (l : List (Int × Int)) : NL.cleans 1 (l.map pD) = true := by
  induction l with
  | nil => rfl
  | cons p l ih => exact Bool.and_eq_true_iff.mpr ⟨rfl, ih⟩
theorem pD_tolds (o : D) (l : List (Int × Int)) : NL.tolds 1 o (l.map pD) = l.map pD := by
  induction l with
  | nil => rfl
  | cons p l ih =>
    show NL.told 1 o (pD p) :: NL.tolds 1 o (l.map pD) = _
    rw [ih]
    rfl
theorem g_Lbehind {kk n : Nat} {ts : List (Int × Int)} (co : Co kk n ts) (l : Nat) (dd : Deed) (ok : okDeed kk dd) (a b : Int) : G HasC.c (l + 3) .Lbehind [cD n ts, deedD dd] [cup a b] = some (cD n ((allP n).filter (outC n (fun p => decide (p ∈ ts)) dd)), [cup a b]) := by
  have n9 := co.n9
  have hl : ts.length ≤ 1000 := by have := co.len; omega
  show mFun 9 (B_Lbehind (G HasC.c (l + 2))) _ _ = _
  have st : startD 9 [cD n ts, deedD dd] = [some (cD n ts), some (deedD dd), none, none, none, none, none, none, none] := rfl
  obtain ⟨f3, f4, f5, f6, f7, f8, lp⟩ := bh_loop l n ts hl kk dd ok (cup a b) (allP n) [] (fun _ h => h) (by have := allP_len n n9; simp; omega) none none none none none none
  rw [List.nil_append] at lp
  have pr := g_Lpairs (l + 1) n n9 [cup a b, .lst []]
  have i0 : ∀ M, oIx M (cD n ts) (.int 0) = some (.int n) := fun _ => cD_0 n ts
  have s1 : mFor itemsL (mCall (G HasC.c (l + 2) .Lpairs) (mCons (mOp oIx (mVar 0) (mC (.int 0))) mNil)) (tgTup 2 (tgCons (tgName 3) (tgCons (tgName 4) tgNil))) (mSeq (bhK (G HasC.c (l + 2))) (mSeq (bhI (G HasC.c (l + 2))) bhA)) [some (cD n ts), some (deedD dd), some (.mu 1), none, none, none, none, none, none] [cup a b, .lst []] =
      some (.nx [some (cD n ts), some (deedD dd), some (.mu 1), f3, f4, f5, f6, f7, f8], [cup a b, .lst (((allP n).filter (outC n (fun p => decide (p ∈ ts)) dd)).map pD)]) := by
    have f : mCall (G HasC.c (l + 2) .Lpairs) (mCons (mOp oIx (mVar 0) (mC (.int 0))) mNil) [some (cD n ts), some (deedD dd), some (.mu 1), none, none, none, none, none, none] [cup a b, .lst []] = some (.lst ((allP n).map pD), [cup a b, .lst []]) := by
      simp only [mCall, mCons, mNil, mOp, mVar, mC, List.getElem?_cons_zero, i0, pr]
    unfold mFor
    rw [f]
    exact lp
  have s2 : mRet (mTup (mCons (mOp oIx (mVar 0) (mC (.int 0))) (mCons (mFn oTuple (mCons (mVar 2) mNil)) mNil))) [some (cD n ts), some (deedD dd), some (.mu 1), f3, f4, f5, f6, f7, f8] [cup a b, .lst (((allP n).filter (outC n (fun p => decide (p ∈ ts)) dd)).map pD)] =
      some (.rt (cD n ((allP n).filter (outC n (fun p => decide (p ∈ ts)) dd))), [cup a b, .lst (((allP n).filter (outC n (fun p => decide (p ∈ ts)) dd)).map pD)]) := by
    generalize (allP n).filter (outC n (fun p => decide (p ∈ ts)) dd) = z
    have ot : oTuple [cup a b, .lst (z.map pD)] [.mu 1] = some (.tup (z.map pD)) := rfl
    simp only [mRet, mTup, mCons, mNil, mOp, mFn, mVar, mC, List.getElem?_cons_succ, List.getElem?_cons_zero, i0, ot]
    rfl
  unfold mFun
  rw [st, lb_eq]
  unfold mNew
  show (match (match mSeq _ _ [some (cD n ts), some (deedD dd), some (.mu 1), none, none, none, none, none, none] [cup a b, .lst []] with
      | some (Out.rt v, M2) => match M2[1]? with
        | some o => if (NL.clean 1 o && (M2.take 1).all (NL.clean 1)) = true then some (Out.rt (NL.told 1 o v), M2.take 1) else none
        | none => none
      | _ => none) with | some (Out.rt d, M1) => some (d, M1) | some (Out.nx _, M1) => some (D.non, M1) | _ => none) = _
  rw [mSeq_nx' s1, s2]
  generalize (allP n).filter (outC n (fun p => decide (p ∈ ts)) dd) = z
  show (match (if (NL.cleans 1 (z.map pD) && ([cup a b] : List D).all (NL.clean 1)) = true then some (Out.rt (D.tup [.int n, .tup (NL.tolds 1 (.lst (z.map pD)) (z.map pD))]), [cup a b]) else none) with | some (Out.rt d, M1) => some (d, M1) | some (Out.nx _, M1) => some (D.non, M1) | _ => none) = _
  rw [if_pos (by rw [pD_clean]; rfl), pD_tolds]
  rfl
end MT

namespace MT
open PySem PySem.Spec PyProof.Rows L2 NL
variable [HasC]
/-! ### a company drawn -/
theorem lc_sub {tg : FT} {t : FB} {e : FE} {r : En} {R : MM} : ∀ {ps : List (Int × Int)}, (∀ p ∈ ps, ∀ M, Cup R M → ∃ r1 b M', tg (pD p) r = some r1 ∧ t r1 M = some (b, M') ∧ Cup R M' ∧ e r1 M' = some (pD p, M')) → ∀ {M : MM}, Cup R M →
    ∃ (qs : List (Int × Int)) (M' : MM), lcD tg t e r (ps.map pD) M = some (qs.map pD, M') ∧ qs.Sublist ps ∧ Cup R M'
  | [], _, M, c => ⟨[], M, rfl, List.Sublist.refl _, c⟩
  | p :: ps, h, M, c => by
    obtain ⟨r1, b, M1, h1, h2, c1, h3⟩ := h p List.mem_cons_self M c
    obtain ⟨qs, M2, h4, hs, c2⟩ := lc_sub (fun q hq => h q (List.mem_cons_of_mem _ hq)) c1
    cases b with
    | true =>
      refine ⟨p :: qs, M2, ?_, hs.cons₂ p, c2⟩
      show lcD tg t e r (pD p :: ps.map pD) M = _
      unfold lcD
      rw [h1]
      simp only []
      rw [h2]
      simp only []
      rw [h3]
      simp only []
      rw [h4]
      rfl
    | false =>
      refine ⟨qs, M2, ?_, hs.cons p, c2⟩
      show lcD tg t e r (pD p :: ps.map pD) M = _
      unfold lcD
      rw [h1]
      simp only []
      rw [h2]
      exact h4
theorem co_sub {k n : Nat} (k1 : 1 ≤ k) (k3 : k ≤ 3) (kn : k ≤ n) (n9 : n ≤ 9) {ts : List (Int × Int)} (h : ts.Sublist (allP n)) : Co k n ts :=
  ⟨k1, k3, kn, n9, fun p hp => mem_allP.mp (h.subset hp), ordB_iff.mpr ((ordB_iff.mp (allP_ord n n9)).sublist h)⟩
theorem allP_len9 : ∀ n, n ≤ 9 → (allP n).length ≤ 36 := by decide +kernel
theorem g_Lcompany (l k : Nat) (k1 : 1 ≤ k) (k3 : k ≤ 3) {M : MM} (c : Cup [] M) :
    ∃ (n : Nat) (ts : List (Int × Int)) (M' : MM), G HasC.c (l + 2) .Lcompany [.mu 0, .int k, .int 0, .int 6] M = some (cD n ts, M') ∧ Co k n ts ∧ ts.length ≤ 36 ∧ Cup [] M' := by
  obtain ⟨r, M1, e1, hr, c1⟩ := cup_roll l c 7 (by decide) (by decide)
  obtain ⟨w, M2, e2, hw, c2⟩ := cup_roll l c1 8 (by decide) (by decide)
  have hn : k + r ≤ 9 := by omega
  have p1 : G HasC.c (l + 1) .Lpairs [.int ((k + r : Nat) : Int)] M2 = some (.lst ((allP (k + r)).map pD), M2) := g_Lpairs l (k + r) (by omega) M2
  have pl := allP_len9 (k + r) hn
  have e1' : G HasC.c (l + 1) .Lroll [.mu 0, .int 7] M = some (.int r, M1) := e1
  have e2' : G HasC.c (l + 1) .Lroll [.mu 0, .int 8] M1 = some (.int w, M2) := e2
  have ea : ∀ N : MM, oAdd N (.int ((k : Int) + 0)) (.int r) = some (.int ((k + r : Nat) : Int)) := fun N => by
    show some (D.int ((k : Int) + 0 + r)) = _
    congr 2
  have s1 : mPar2 4 5 (mCons (mOp oAdd (mOp oAdd (mVar 1) (mVar 2)) (mCall (G HasC.c (l + 1) .Lroll) (mCons (mVar 0) (mCons (mOp oAdd (mOp oSub (mVar 3) (mVar 2)) (mC (.int 1))) mNil)))) (mCons (mCall (G HasC.c (l + 1) .Lroll) (mCons (mVar 0) (mCons (mC (.int 8)) mNil))) mNil))
      [some (.mu 0), some (.int k), some (.int 0), some (.int 6), none, none, none] M = some (.nx [some (.mu 0), some (.int k), some (.int 0), some (.int 6), some (.int ((k + r : Nat) : Int)), some (.int w), none], M2) := by
    have a1 : oAdd M (.int k) (.int 0) = some (.int ((k : Int) + 0)) := rfl
    have a2 : oSub M (.int 6) (.int 0) = some (.int 6) := rfl
    have a3 : oAdd M (.int 6) (.int 1) = some (.int 7) := rfl
    simp only [mPar2, mCons, mNil, mOp, mCall, mVar, mC, List.getElem?_cons_zero, List.getElem?_cons_succ, Option.bind_some, a1, a2, a3, e1', e2', ea, List.set_cons_succ, List.set_cons_zero]
  by_cases h2 : w < 2
  · have lt : oLtX M2 (.int w) (.int 2) = some (.bl true) := by
      show some (D.bl (decide ((w : Int) < 2))) = _
      rw [decide_eq_true (by omega)]
    by_cases h0 : w = 0
    · refine ⟨k + r, allP (k + r), M2, ?_, co_sub k1 k3 (by omega) (by omega) (List.Sublist.refl _), pl, c2⟩
      show mFun 7 (B_Lcompany (G HasC.c (l + 1))) [.mu 0, .int k, .int 0, .int 6] M = _
      have q : oEq M2 (.int w) (.int 0) = some (.bl true) := by subst h0; rfl
      have o1 : oTuple M2 [.lst ((allP (k + r)).map pD)] = some (.tup ((allP (k + r)).map pD)) := rfl
      simp only [mFun, B_Lcompany, mSeq, startD, List.map_cons, List.map_nil, List.length_cons, List.length_nil, Nat.zero_add, Nat.reduceSub, Nat.reduceAdd, List.replicate_succ, List.replicate_zero, List.cons_append, List.nil_append]
      rw [s1]
      simp only [mIfS, mB, mOp, mVar, mC, mRet, mTup, mCons, mNil, mIf, mFn, mCall, List.getElem?_cons_zero, List.getElem?_cons_succ, Option.bind_some, lt, q, p1, o1, cD]
    · refine ⟨k + r, [], M2, ?_, co_sub k1 k3 (by omega) (by omega) (List.nil_sublist _), by simp, c2⟩
      show mFun 7 (B_Lcompany (G HasC.c (l + 1))) [.mu 0, .int k, .int 0, .int 6] M = _
      have q : oEq M2 (.int w) (.int 0) = some (.bl false) := by
        have : w = 1 := by omega
        subst this
        rfl
      simp only [mFun, B_Lcompany, mSeq, startD, List.map_cons, List.map_nil, List.length_cons, List.length_nil, Nat.zero_add, Nat.reduceSub, Nat.reduceAdd, List.replicate_succ, List.replicate_zero, List.cons_append, List.nil_append]
      rw [s1]
      simp only [mIfS, mB, mOp, mVar, mC, mRet, mTup, mCons, mNil, mIf, mFn, mCall, List.getElem?_cons_zero, List.getElem?_cons_succ, Option.bind_some, lt, q, cD, List.map_nil]
  · have lt : oLtX M2 (.int w) (.int 2) = some (.bl false) := by
      show some (D.bl (decide ((w : Int) < 2))) = _
      rw [decide_eq_false (by omega)]
    obtain ⟨qs, M3, h4, hs, c3⟩ := lc_sub (R := []) (tg := tgName 6) (t := mB (mOp oEq (mCall (G HasC.c (l + 1) Fid.Lroll) (mCons (mVar 0) (mCons (mC (.int 2)) mNil))) (mC (.int 0)))) (e := mVar 6)
      (r := wipeD [some (.mu 0), some (.int k), some (.int 0), some (.int 6), some (.int ((k + r : Nat) : Int)), some (.int w), none] [6]) (ps := allP (k + r)) (fun p hp N cN => by
        obtain ⟨x, N', ex, hx, cN'⟩ := cup_roll l cN 2 (by decide) (by decide)
        have ex' : G HasC.c (l + 1) .Lroll [.mu 0, .int 2] N = some (.int x, N') := ex
        refine ⟨_, (x : Int) == 0, N', rfl, ?_, cN', rfl⟩
        have q : oEq N' (.int x) (.int 0) = some (.bl ((x : Int) == 0)) := rfl
        simp only [wipeD, List.set_cons_succ, List.set_cons_zero, mB, mOp, mCall, mCons, mNil, mVar, mC, List.getElem?_cons_zero, List.getElem?_cons_succ, Option.bind_some, ex', q]) c2
    refine ⟨k + r, qs, M3, ?_, co_sub k1 k3 (by omega) (by omega) hs, Nat.le_trans hs.length_le pl, c3⟩
    show mFun 7 (B_Lcompany (G HasC.c (l + 1))) [.mu 0, .int k, .int 0, .int 6] M = _
    have o1 : oTuple M3 [.lst (qs.map pD)] = some (.tup (qs.map pD)) := rfl
    have hal : ((allP (k + r)).map pD).length ≤ 1000 := by
      rw [List.length_map]
      omega
    have lc : mLc itemsL (mCall (G HasC.c (l + 1) .Lpairs) (mCons (mVar 4) mNil)) (tgName 6) (mB (mOp oEq (mCall (G HasC.c (l + 1) .Lroll) (mCons (mVar 0) (mCons (mC (.int 2)) mNil))) (mC (.int 0)))) (mVar 6) [6]
        [some (.mu 0), some (.int k), some (.int 0), some (.int 6), some (.int ((k + r : Nat) : Int)), some (.int w), none] M2 = some (.lst (qs.map pD), M3) := by
      have f : mCall (G HasC.c (l + 1) .Lpairs) (mCons (mVar 4) mNil) [some (.mu 0), some (.int k), some (.int 0), some (.int 6), some (.int ((k + r : Nat) : Int)), some (.int w), none] M2 = some (.lst ((allP (k + r)).map pD), M2) := by
        simp only [mCall, mCons, mNil, mVar, List.getElem?_cons_zero, List.getElem?_cons_succ, Option.bind_some, p1]
      unfold mLc
      rw [f]
      simp only [itemsL]
      rw [if_pos hal, h4]
    simp only [mFun, B_Lcompany, mSeq, startD, List.map_cons, List.map_nil, List.length_cons, List.length_nil, Nat.zero_add, Nat.reduceSub, Nat.reduceAdd, List.replicate_succ, List.replicate_zero, List.cons_append, List.nil_append]
    rw [s1]
    simp only [mIfS, mB, mOp, mVar, mC, mSkip, mRet, mTup, mCons, mNil, mFn, List.getElem?_cons_zero, List.getElem?_cons_succ, Option.bind_some, lt]
    simp only [lc, o1, cD]
end MT

namespace MT
open PySem PySem.Spec PyProof.Rows L2 NL
variable [HasC]
/-! ### a deed drawn -/
theorem lc_ans (l : Nat) {r : En} (h0 : r[0]? = some (some (.mu 0))) (h2 : 2 < r.length) : ∀ (ds : List D) {M : MM}, Cup [] M → ∃ (as : List Bool) (M' : MM), lcD (tgName 2) mYes (mCall (G HasC.c (l + 1) .Lroll) (mCons (mVar 0) (mCons (mC (.int 2)) mNil))) r ds M = some (as.map fun a => .int (b2i a), M') ∧ as.length = ds.length ∧ Cup [] M'
  | [], M, c => ⟨[], M, rfl, rfl, c⟩
  | d :: ds, M, c => by
    obtain ⟨x, M1, e1, hx, c1⟩ := cup_roll l c 2 (by decide) (by decide)
    obtain ⟨as, M2, e2, hl, c2⟩ := lc_ans l h0 h2 ds c1
    have ex : (D.int (x : Int)) = .int (b2i (decide (x = 1))) := by
      have : x = 0 ∨ x = 1 := by omega
      rcases this with rfl | rfl <;> rfl
    refine ⟨decide (x = 1) :: as, M2, ?_, by simp [hl], c2⟩
    have r0 : (r.set 2 (some d))[0]? = some (some (.mu 0)) := by
      rw [List.getElem?_set_ne (by decide)]
      exact h0
    have e1' : G HasC.c (l + 1) .Lroll [.mu 0, .int 2] M = some (.int x, M1) := e1
    show lcD _ _ _ r (d :: ds) M = _
    unfold lcD
    simp only [tgName, mYes, mCall, mCons, mNil, mVar, mC, r0, e1', e2, ex]
    rfl
theorem g_Lanswers (l m : Nat) (hm : m ≤ 10) {M : MM} (c : Cup [] M) : ∃ (as : List Bool) (M' : MM), G HasC.c (l + 2) .Lanswers [.mu 0, .int m] M = some (ansD as, M') ∧ as.length = m ∧ Cup [] M' := by
  have st : startD 3 [.mu 0, .int (m : Int)] = [some (.mu 0), some (.int m), none] := rfl
  obtain ⟨as, M', e, hl, c'⟩ := lc_ans l (r := [some (.mu 0), some (.int m), none]) rfl (by simp) (rangeD 0 m) c
  refine ⟨as, M', ?_, by rw [hl, rangeD_len], c'⟩
  show mFun 3 (B_Lanswers (G HasC.c (l + 1))) _ M = _
  have rg : rng1 [.int (m : Int)] = some (0, (m : Int)) := by
    show (if (m : Int).natAbs ≤ 1000000 then some ((0 : Int), (m : Int)) else none) = _
    rw [if_pos (by omega)]
  have e0 : ((m : Int) - 0).toNat = m := by omega
  have lcr : mLcR rng1 (mCons (mVar 1) mNil) (tgName 2) mYes (mCall (G HasC.c (l + 1) .Lroll) (mCons (mVar 0) (mCons (mC (.int 2)) mNil))) [2] [some (.mu 0), some (.int m), none] M = some (.lst (as.map fun a => .int (b2i a)), M') := by
    have f : mCons (mVar 1) mNil [some (.mu 0), some (.int (m : Int)), none] M = some ([.int m], M) := rfl
    unfold mLcR
    rw [f]
    simp only []
    rw [rg]
    simp only []
    rw [e0, if_pos (by omega)]
    show (match lcD _ _ _ [some (.mu 0), some (.int (m : Int)), none] (rangeD 0 m) M with | some (ys, M2) => some (D.lst ys, M2) | none => none) = _
    rw [e]
  have ot : ∀ xs, oTuple M' [.lst xs] = some (.tup xs) := fun _ => rfl
  unfold mFun
  rw [st]
  simp only [B_Lanswers, mRet, mFn, mCons, mNil, lcr, ot]
  rfl
end MT

namespace MT
open PySem PySem.Spec PyProof.Rows L2 NL
variable [HasC]
def dA (cl : Fid → FC) : FS := (mSeq (mAsg (mLst (mCons (mTup (mCons (mC (.int 0)) (mCons (mC (.int 0)) (mCons (mC (.int 1)) (mCons (mC (.int 1)) (mCons (mC (.int 1)) (mCons (mC (.int 1)) mNil))))))) (mCons (mTup (mCons (mC (.int 0)) (mCons (mC (.int 0)) (mCons (mC (.int 0)) (mCons (mC (.int 1)) (mCons (mC (.int 1)) (mCons (mC (.int 0)) mNil))))))) (mCons (mTup (mCons (mC (.int 1)) (mCons (mC (.int 0)) (mCons (mC (.int 0)) (mCons (mC (.int 1)) (mCons (mC (.int 1)) (mCons (mC (.int 1)) mNil))))))) (mCons (mTup (mCons (mC (.int 0)) (mCons (mC (.int 0)) (mCons (mC (.int 1)) (mCons (mC (.int 1)) (mCons (mC (.int 1)) (mCons (mC (.int 0)) mNil))))))) (mCons (mTup (mCons (mC (.int 1)) (mCons (mC (.int 1)) (mCons (mC (.int 1)) (mCons (mC (.int 0)) (mCons (mC (.int 0)) (mCons (mC (.int 0)) mNil))))))) (mCons (mTup (mCons (mC (.int 0)) (mCons (mC (.int 0)) (mCons (mC (.int 0)) (mCons (mC (.int 1)) (mCons (mC (.int 1)) (mCons (mC (.int 1)) mNil))))))) (mCons (mTup (mCons (mC (.int 0)) (mCons (mC (.int 1)) (mCons (mC (.int 0)) (mCons (mC (.int 0)) (mCons (mC (.int 1)) (mCons (mC (.int 0)) mNil))))))) mNil)))))))) (tgName 3)) (mRet (mTup (mCons (mC (.str "pairs")) (mCons (mVar 2) (mCons (mCall (cl .Lsome) (mCons (mVar 0) (mCons (mOp oAdd (mVar 3) (mLst (mCons (mCall (cl .Lanswers) (mCons (mVar 0) (mCons (mC (.int 6)) mNil))) (mCons (mCall (cl .Lanswers) (mCons (mVar 0) (mCons (mC (.int 6)) mNil))) (mCons (mCall (cl .Lanswers) (mCons (mVar 0) (mCons (mC (.int 6)) mNil))) mNil))))) mNil))) mNil))))))
def dT (cl : Fid → FC) : FB := (mB (mOr (mOp oEq (mVar 1) (mC (.int 1))) (mOp oLtX (mCall (cl .Lroll) (mCons (mVar 0) (mCons (mC (.int 5)) mNil))) (mC (.int 2)))))
def dO (cl : Fid → FC) : FS := (mAsg (mCall (cl .Lsome) (mCons (mVar 0) (mCons (mLcR rng1 (mCons (mVar 1) mNil) (tgName 5) (mB (mOp oNe (mVar 5) (mVar 2))) (mVar 5) [5]) mNil))) (tgName 4))
def dT2 (cl : Fid → FC) : FB := (mB (mOp oGt (mCall (cl .Lroll) (mCons (mVar 0) (mCons (mC (.int 3)) mNil))) (mC (.int 0))))
def dB (cl : Fid → FC) : FS := (mSeq (mAsg (mLst (mCons (mTup (mCons (mC (.int 0)) (mCons (mC (.int 1)) (mCons (mC (.int 0)) (mCons (mC (.int 1)) mNil))))) (mCons (mTup (mCons (mC (.int 0)) (mCons (mC (.int 1)) (mCons (mC (.int 1)) (mCons (mC (.int 0)) mNil))))) (mCons (mTup (mCons (mC (.int 0)) (mCons (mC (.int 1)) (mCons (mC (.int 1)) (mCons (mC (.int 1)) mNil))))) (mCons (mTup (mCons (mC (.int 0)) (mCons (mC (.int 0)) (mCons (mC (.int 0)) (mCons (mC (.int 1)) mNil))))) (mCons (mTup (mCons (mC (.int 0)) (mCons (mC (.int 0)) (mCons (mC (.int 1)) (mCons (mC (.int 1)) mNil))))) (mCons (mCall (cl .Lanswers) (mCons (mVar 0) (mCons (mC (.int 4)) mNil))) (mCons (mCall (cl .Lanswers) (mCons (mVar 0) (mCons (mC (.int 4)) mNil))) mNil)))))))) (tgName 3)) (mRet (mTup (mCons (mC (.str "takes")) (mCons (mVar 2) (mCons (mVar 4) (mCons (mCall (cl .Lsome) (mCons (mVar 0) (mCons (mVar 3) mNil))) mNil)))))))
def dR (cl : Fid → FC) : FS := (mRet (mTup (mCons (mC (.str "tie")) (mCons (mVar 2) (mCons (mVar 4) (mCons (mCall (cl .Lsome) (mCons (mVar 0) (mCons (mLst (mCons (mC (.str "know")) (mCons (mC (.str "part")) (mCons (mC (.str "turn")) mNil)))) mNil))) mNil))))))
theorem deed_eq (cl : Fid → FC) : B_Ldeed cl = mSeq (mAsg (mCall (cl .Lroll) (mCons (mVar 0) (mCons (mVar 1) mNil))) (tgName 2)) (mSeq (mIfS (dT cl) (dA cl) mSkip) (mSeq (dO cl) (mSeq (mIfS (dT2 cl) (dB cl) mSkip) (dR cl)))) := rfl
def L7 : List (List Bool) := [[false, false, true, true, true, true], [false, false, false, true, true, false], [true, false, false, true, true, true], [false, false, true, true, true, false], [true, true, true, false, false, false], [false, false, false, true, true, true], [false, true, false, false, true, false]]
def L5 : List (List Bool) := [[false, true, false, true], [false, true, true, false], [false, true, true, true], [false, false, false, true], [false, false, true, true]]
theorem L7_len : ∀ as ∈ L7, as.length = 6 := by decide
theorem L5_len : ∀ as ∈ L5, as.length = 4 := by decide
def dE (k d : Nat) (e3 e4 e5 : Option D) : En := [some (.mu 0), some (.int k), some (.int d), e3, e4, e5]
theorem d_A (l k d : Nat) (e3 e4 e5 : Option D) {M : MM} (c : Cup [] M) : ∃ (as : List Bool) (M' : MM), dA (G HasC.c (l + 2)) (dE k d e3 e4 e5) M = some (.rt (deedD (.pairs d as)), M') ∧ as.length = 6 ∧ Cup [] M' := by
  obtain ⟨a1, M1, q1, l1, c1⟩ := g_Lanswers l 6 (by decide) c
  obtain ⟨a2, M2, q2, l2, c2⟩ := g_Lanswers l 6 (by decide) c1
  obtain ⟨a3, M3, q3, l3, c3⟩ := g_Lanswers l 6 (by decide) c2
  obtain ⟨x, M4, q4, hx, c4⟩ := cup_some l c3 (L7.map ansD ++ [ansD a1, ansD a2, ansD a3]) (by simp [L7]) (by simp [L7])
  have hx' : ∃ as, x = ansD as ∧ as.length = 6 := by
    rcases List.mem_append.mp hx with h | h
    · obtain ⟨as, h1, rfl⟩ := List.mem_map.mp h
      exact ⟨as, rfl, L7_len as h1⟩
    · simp only [List.mem_cons, List.not_mem_nil, or_false] at h
      rcases h with rfl | rfl | rfl
      · exact ⟨a1, rfl, l1⟩
      · exact ⟨a2, rfl, l2⟩
      · exact ⟨a3, rfl, l3⟩
  obtain ⟨as, rfl, ha⟩ := hx'
  refine ⟨as, M4, ?_, ha, c4⟩
  have q1' : G HasC.c (l + 2) .Lanswers [.mu 0, .int 6] M = some (ansD a1, M1) := q1
  have q2' : G HasC.c (l + 2) .Lanswers [.mu 0, .int 6] M1 = some (ansD a2, M2) := q2
  have q3' : G HasC.c (l + 2) .Lanswers [.mu 0, .int 6] M2 = some (ansD a3, M3) := q3
  unfold dA
  have s1 : ∀ f : FS, mSeq (mAsg (mLst (mCons (mTup (mCons (mC (.int 0)) (mCons (mC (.int 0)) (mCons (mC (.int 1)) (mCons (mC (.int 1)) (mCons (mC (.int 1)) (mCons (mC (.int 1)) mNil))))))) (mCons (mTup (mCons (mC (.int 0)) (mCons (mC (.int 0)) (mCons (mC (.int 0)) (mCons (mC (.int 1)) (mCons (mC (.int 1)) (mCons (mC (.int 0)) mNil))))))) (mCons (mTup (mCons (mC (.int 1)) (mCons (mC (.int 0)) (mCons (mC (.int 0)) (mCons (mC (.int 1)) (mCons (mC (.int 1)) (mCons (mC (.int 1)) mNil))))))) (mCons (mTup (mCons (mC (.int 0)) (mCons (mC (.int 0)) (mCons (mC (.int 1)) (mCons (mC (.int 1)) (mCons (mC (.int 1)) (mCons (mC (.int 0)) mNil))))))) (mCons (mTup (mCons (mC (.int 1)) (mCons (mC (.int 1)) (mCons (mC (.int 1)) (mCons (mC (.int 0)) (mCons (mC (.int 0)) (mCons (mC (.int 0)) mNil))))))) (mCons (mTup (mCons (mC (.int 0)) (mCons (mC (.int 0)) (mCons (mC (.int 0)) (mCons (mC (.int 1)) (mCons (mC (.int 1)) (mCons (mC (.int 1)) mNil))))))) (mCons (mTup (mCons (mC (.int 0)) (mCons (mC (.int 1)) (mCons (mC (.int 0)) (mCons (mC (.int 0)) (mCons (mC (.int 1)) (mCons (mC (.int 0)) mNil))))))) mNil)))))))) (tgName 3)) f (dE k d e3 e4 e5) M = f (dE k d (some (.lst (L7.map ansD))) e4 e5) M := fun f => rfl
  rw [s1]
  have ad : ∀ N, oAdd N (.lst (L7.map ansD)) (.lst [ansD a1, ansD a2, ansD a3]) = some (.lst (L7.map ansD ++ [ansD a1, ansD a2, ansD a3])) := fun _ => rfl
  generalize L7.map ansD = LL at *
  simp only [mRet, mTup, mCons, mNil, mCall, mOp, mLst, mVar, mC, dE, List.getElem?_cons_succ, List.getElem?_cons_zero, q1', q2', q3', ad, q4]
  rfl
theorem lc_sel (q : Nat → Bool) {tg : FT} {t : FB} {e : FE} {r : En} {M : MM} : ∀ {js : List Nat}, (∀ j ∈ js, ∃ r1, tg (.int (j : Nat)) r = some r1 ∧ t r1 M = some (q j, M) ∧ e r1 M = some (.int (j : Nat), M)) → lcD tg t e r (js.map fun (j : Nat) => D.int (j : Int)) M = some ((js.filter q).map fun (j : Nat) => D.int (j : Int), M)
  | [], _ => rfl
  | j :: js, h => by
    obtain ⟨r1, h1, h2, h3⟩ := h j List.mem_cons_self
    have ih := lc_sel q (js := js) fun d hd => h d (List.mem_cons_of_mem _ hd)
    show lcD tg t e r (.int (j : Nat) :: js.map fun (j : Nat) => D.int (j : Int)) M = _
    unfold lcD
    rw [h1]
    simp only []
    rw [h2]
    cases hp : q j with
    | true =>
      simp only []
      rw [h3]
      simp only []
      rw [ih]
      simp [List.filter_cons, hp]
    | false =>
      simp only []
      rw [ih]
      simp [List.filter_cons, hp]
theorem d_O (l k d : Nat) (k2 : 2 ≤ k) (k3 : k ≤ 3) (hd : d < k) (e3 e4 : Option D) {M : MM} (c : Cup [] M) : ∃ (m : Nat) (M' : MM), dO (G HasC.c (l + 2)) (dE k d e3 e4 none) M = some (.nx (dE k d e3 (some (.int m)) none), M') ∧ m < k ∧ m ≠ d ∧ Cup [] M' := by
  have er : rangeD 0 k = (List.range k).map fun (m : Nat) => D.int (m : Int) := by
    unfold rangeD
    refine List.map_congr_left fun m _ => ?_
    rw [Int.zero_add]
  have ne : ((List.range k).filter fun m => !(m == d)).map (fun (m : Nat) => D.int (m : Int)) ≠ [] := by
    have : ∃ m, m < k ∧ m ≠ d := by
      by_cases h : d = 0
      · exact ⟨1, by omega, by omega⟩
      · exact ⟨0, by omega, by omega⟩
    obtain ⟨m, h1, h2⟩ := this
    intro z
    have : (D.int (m : Int)) ∈ ((List.range k).filter fun m => !(m == d)).map (fun (m : Nat) => D.int (m : Int)) := List.mem_map.mpr ⟨m, List.mem_filter.mpr ⟨List.mem_range.mpr h1, by simpa using h2⟩, rfl⟩
    rw [z] at this
    cases this
  have len := List.length_filter_le (fun m => !(m == d)) (List.range k)
  rw [List.length_range] at len
  obtain ⟨x, M1, q1, hx, c1⟩ := cup_some l c (((List.range k).filter fun m => !(m == d)).map fun (m : Nat) => D.int (m : Int)) ne (by rw [List.length_map]; omega)
  obtain ⟨m, hm, rfl⟩ := List.mem_map.mp hx
  obtain ⟨h1, h2⟩ := List.mem_filter.mp hm
  refine ⟨m, M1, ?_, List.mem_range.mp h1, by simpa using h2, c1⟩
  have lc : lcD (tgName 5) (mB (mOp oNe (mVar 5) (mVar 2))) (mVar 5) (dE k d e3 e4 none) (rangeD 0 k) M = some (((List.range k).filter fun m => !(m == d)).map fun (m : Nat) => D.int (m : Int), M) := by
    rw [er]
    refine lc_sel (fun m => !(m == d)) fun j hj => ⟨_, rfl, ?_, rfl⟩
    have : ((j : Int) == (d : Int)) = (j == d) := by
      rw [Bool.eq_iff_iff, beq_iff_eq, beq_iff_eq]
      omega
    simp only [dE, mB, mOp, mVar, List.getElem?_cons_succ, List.getElem?_cons_zero, List.set_cons_succ, List.set_cons_zero, oNe_ii, this]
  have lcr : mLcR rng1 (mCons (mVar 1) mNil) (tgName 5) (mB (mOp oNe (mVar 5) (mVar 2))) (mVar 5) [5] (dE k d e3 e4 none) M = some (.lst (((List.range k).filter fun m => !(m == d)).map fun (m : Nat) => D.int (m : Int)), M) := by
    have f : mCons (mVar 1) mNil (dE k d e3 e4 none) M = some ([.int k], M) := rfl
    have rg : rng1 [.int (k : Int)] = some (0, (k : Int)) := by
      show (if (k : Int).natAbs ≤ 1000000 then some ((0 : Int), (k : Int)) else none) = _
      rw [if_pos (by omega)]
    have e0 : ((k : Int) - 0).toNat = k := by omega
    unfold mLcR
    rw [f]
    simp only []
    rw [rg]
    simp only []
    rw [e0, if_pos (by omega)]
    show (match lcD _ _ _ (dE k d e3 e4 none) (rangeD 0 k) M with | some (ys, M2) => some (D.lst ys, M2) | none => none) = _
    rw [lc]
  have v0 : mVar 0 (dE k d e3 e4 none) M = some (.mu 0, M) := rfl
  unfold dO
  simp only [mAsg, mCall, mCons, mNil, v0, lcr, q1]
  rfl
theorem d_B (l k d m : Nat) (e3 e5 : Option D) {M : MM} (c : Cup [] M) : ∃ (as : List Bool) (M' : MM), dB (G HasC.c (l + 2)) (dE k d e3 (some (.int m)) e5) M = some (.rt (deedD (.takes d m as)), M') ∧ as.length = 4 ∧ Cup [] M' := by
  obtain ⟨a1, M1, q1, l1, c1⟩ := g_Lanswers l 4 (by decide) c
  obtain ⟨a2, M2, q2, l2, c2⟩ := g_Lanswers l 4 (by decide) c1
  obtain ⟨x, M4, q4, hx, c4⟩ := cup_some l c2 (L5.map ansD ++ [ansD a1, ansD a2]) (by simp [L5]) (by simp [L5])
  have hx' : ∃ as, x = ansD as ∧ as.length = 4 := by
    rcases List.mem_append.mp hx with h | h
    · obtain ⟨as, h1, rfl⟩ := List.mem_map.mp h
      exact ⟨as, rfl, L5_len as h1⟩
    · simp only [List.mem_cons, List.not_mem_nil, or_false] at h
      rcases h with rfl | rfl
      · exact ⟨a1, rfl, l1⟩
      · exact ⟨a2, rfl, l2⟩
  obtain ⟨as, rfl, ha⟩ := hx'
  refine ⟨as, M4, ?_, ha, c4⟩
  have q1' : G HasC.c (l + 2) .Lanswers [.mu 0, .int 4] M = some (ansD a1, M1) := q1
  have q2' : G HasC.c (l + 2) .Lanswers [.mu 0, .int 4] M1 = some (ansD a2, M2) := q2
  have lst : mLst (mCons (mTup (mCons (mC (.int 0)) (mCons (mC (.int 1)) (mCons (mC (.int 0)) (mCons (mC (.int 1)) mNil))))) (mCons (mTup (mCons (mC (.int 0)) (mCons (mC (.int 1)) (mCons (mC (.int 1)) (mCons (mC (.int 0)) mNil))))) (mCons (mTup (mCons (mC (.int 0)) (mCons (mC (.int 1)) (mCons (mC (.int 1)) (mCons (mC (.int 1)) mNil))))) (mCons (mTup (mCons (mC (.int 0)) (mCons (mC (.int 0)) (mCons (mC (.int 0)) (mCons (mC (.int 1)) mNil))))) (mCons (mTup (mCons (mC (.int 0)) (mCons (mC (.int 0)) (mCons (mC (.int 1)) (mCons (mC (.int 1)) mNil))))) (mCons (mCall (G HasC.c (l + 2) .Lanswers) (mCons (mVar 0) (mCons (mC (.int 4)) mNil))) (mCons (mCall (G HasC.c (l + 2) .Lanswers) (mCons (mVar 0) (mCons (mC (.int 4)) mNil))) mNil))))))) (dE k d e3 (some (.int m)) e5) M = some (.lst (L5.map ansD ++ [ansD a1, ansD a2]), M2) := by
    simp only [mLst, mCons, mNil, mTup, mCall, mC, mVar, dE, List.getElem?_cons_zero, q1', q2']
    rfl
  have s1 : mAsg (mLst (mCons (mTup (mCons (mC (.int 0)) (mCons (mC (.int 1)) (mCons (mC (.int 0)) (mCons (mC (.int 1)) mNil))))) (mCons (mTup (mCons (mC (.int 0)) (mCons (mC (.int 1)) (mCons (mC (.int 1)) (mCons (mC (.int 0)) mNil))))) (mCons (mTup (mCons (mC (.int 0)) (mCons (mC (.int 1)) (mCons (mC (.int 1)) (mCons (mC (.int 1)) mNil))))) (mCons (mTup (mCons (mC (.int 0)) (mCons (mC (.int 0)) (mCons (mC (.int 0)) (mCons (mC (.int 1)) mNil))))) (mCons (mTup (mCons (mC (.int 0)) (mCons (mC (.int 0)) (mCons (mC (.int 1)) (mCons (mC (.int 1)) mNil))))) (mCons (mCall (G HasC.c (l + 2) .Lanswers) (mCons (mVar 0) (mCons (mC (.int 4)) mNil))) (mCons (mCall (G HasC.c (l + 2) .Lanswers) (mCons (mVar 0) (mCons (mC (.int 4)) mNil))) mNil)))))))) (tgName 3) (dE k d e3 (some (.int m)) e5) M = some (.nx (dE k d (some (.lst (L5.map ansD ++ [ansD a1, ansD a2]))) (some (.int m)) e5), M2) := by
    unfold mAsg
    rw [lst]
    rfl
  unfold dB
  rw [mSeq_nx' s1]
  generalize L5.map ansD ++ [ansD a1, ansD a2] = LL at *
  simp only [mRet, mTup, mCons, mNil, mCall, mVar, mC, dE, List.getElem?_cons_succ, List.getElem?_cons_zero, q4]
  rfl
theorem g_Ldeed (l k : Nat) (k1 : 1 ≤ k) (k3 : k ≤ 3) {M : MM} (c : Cup [] M) : ∃ (dd : Deed) (M' : MM), G HasC.c (l + 3) .Ldeed [.mu 0, .int k] M = some (deedD dd, M') ∧ okDeed k dd ∧ Cup [] M' := by
  obtain ⟨d, M1, q1, hd, c1⟩ := cup_roll (l + 1) c k (by omega) (by omega)
  have q1' : G HasC.c (l + 2) .Lroll [.mu 0, .int k] M = some (.int d, M1) := q1
  have st : startD 6 [.mu 0, .int (k : Int)] = [some (.mu 0), some (.int k), none, none, none, none] := rfl
  have s0 : mAsg (mCall (G HasC.c (l + 2) .Lroll) (mCons (mVar 0) (mCons (mVar 1) mNil))) (tgName 2) [some (.mu 0), some (.int k), none, none, none, none] M = some (.nx (dE k d none none none), M1) := by
    simp only [mAsg, mCall, mCons, mNil, mVar, List.getElem?_cons_succ, List.getElem?_cons_zero, q1']
    rfl
  have go : (∃ M2, dT (G HasC.c (l + 2)) (dE k d none none none) M1 = some (true, M2) ∧ Cup [] M2) ∨ ∃ M2, dT (G HasC.c (l + 2)) (dE k d none none none) M1 = some (false, M2) ∧ Cup [] M2 ∧ 2 ≤ k := by
    by_cases h1 : k = 1
    · subst h1
      exact .inl ⟨M1, rfl, c1⟩
    · obtain ⟨x, M2, q2, hx, c2⟩ := cup_roll (l + 1) c1 5 (by decide) (by decide)
      have q2' : G HasC.c (l + 2) .Lroll [.mu 0, .int 5] M1 = some (.int x, M2) := q2
      have e1 : oEq M1 (.int k) (.int 1) = some (.bl false) := by
        show some (D.bl ((k : Int) == 1)) = _
        have : ((k : Int) == 1) = false := by
          rw [beq_eq_false_iff_ne]
          omega
        rw [this]
      have e2 : oLtX M2 (.int x) (.int 2) = some (.bl (decide ((x : Int) < 2))) := rfl
      have v : dT (G HasC.c (l + 2)) (dE k d none none none) M1 = some (decide ((x : Int) < 2), M2) := by
        simp only [dT, dE, mB, mOr, mOp, mCall, mCons, mNil, mVar, mC, List.getElem?_cons_succ, List.getElem?_cons_zero, e1, q2', e2]
      cases hx2 : decide ((x : Int) < 2) with
      | true => exact .inl ⟨M2, by rw [v, hx2], c2⟩
      | false => exact .inr ⟨M2, by rw [v, hx2], c2, by omega⟩
  show ∃ (dd : Deed) (M' : MM), mFun 6 (B_Ldeed (G HasC.c (l + 2))) [.mu 0, .int k] M = some (deedD dd, M') ∧ okDeed k dd ∧ Cup [] M'
  unfold mFun
  rw [st, deed_eq, mSeq_nx' s0]
  rcases go with ⟨M2, t, c2⟩ | ⟨M2, t, c2, k2⟩
  · obtain ⟨as, M3, q3, ha, c3⟩ := d_A l k d none none none c2
    refine ⟨.pairs d as, M3, ?_, ⟨by omega, by omega, ha⟩, c3⟩
    unfold mSeq
    rw [mIfS_true' t, q3]
  · obtain ⟨m, M3, q3, hm, hmd, c3⟩ := d_O l k d k2 k3 hd none none c2
    obtain ⟨y, M4, q4, hy, c4⟩ := cup_roll (l + 1) c3 3 (by decide) (by decide)
    have q4' : G HasC.c (l + 2) .Lroll [.mu 0, .int 3] M3 = some (.int y, M4) := q4
    have t2 : dT2 (G HasC.c (l + 2)) (dE k d none (some (.int m)) none) M3 = some (decide ((0 : Int) < y), M4) := by
      have e2 : oGt M4 (.int y) (.int 0) = some (.bl (decide ((0 : Int) < y))) := rfl
      simp only [dT2, dE, mB, mOp, mCall, mCons, mNil, mVar, mC, List.getElem?_cons_succ, List.getElem?_cons_zero, q4', e2]
    have sk : mIfS (dT (G HasC.c (l + 2))) (dA (G HasC.c (l + 2))) mSkip (dE k d none none none) M1 = some (.nx (dE k d none none none), M2) := by
      unfold mIfS
      rw [t]
      rfl
    rw [mSeq_nx' sk, mSeq_nx' q3]
    cases hy2 : decide ((0 : Int) < y) with
    | true =>
      rw [hy2] at t2
      obtain ⟨as, M5, q5, ha, c5⟩ := d_B l k d m none none c4
      refine ⟨.takes d m as, M5, ?_, ⟨by omega, by omega, by omega, by omega, by omega, ha⟩, c5⟩
      unfold mSeq
      rw [mIfS_true' t2, q5]
    | false =>
      rw [hy2] at t2
      obtain ⟨x, M5, q5, hx, c5⟩ := cup_some l c4 [.str "know", .str "part", .str "turn"] (by simp) (by simp)
      have sk2 : mIfS (dT2 (G HasC.c (l + 2))) (dB (G HasC.c (l + 2))) mSkip (dE k d none (some (.int m)) none) M3 = some (.nx (dE k d none (some (.int m)) none), M4) := by
        unfold mIfS
        rw [t2]
        rfl
      have hw : ∃ w : Str, x = .str w ∧ (w = "know" ∨ w = "part" ∨ w = "turn") := by
        simp only [List.mem_cons, List.not_mem_nil, or_false] at hx
        rcases hx with rfl | rfl | rfl
        · exact ⟨_, rfl, .inl rfl⟩
        · exact ⟨_, rfl, .inr (.inl rfl)⟩
        · exact ⟨_, rfl, .inr (.inr rfl)⟩
      obtain ⟨w, rfl, hw⟩ := hw
      refine ⟨.tie d m w, M5, ?_, ⟨by omega, by omega, by omega, by omega, by omega, hw⟩, c5⟩
      rw [mSeq_nx' sk2]
      simp only [dR, dE, mRet, mTup, mCons, mNil, mCall, mLst, mVar, mC, List.getElem?_cons_succ, List.getElem?_cons_zero, q5]
      rfl
end MT

namespace MT
open PySem PySem.Spec PyProof.Rows L2 NL
variable [HasC]
theorem oAdd_ll {M : MM} {a b : List D} (h : a.length + b.length ≤ 1000) : oAdd M (.lst a) (.lst b) = some (.lst (a ++ b)) := by
  show (if a.length + b.length ≤ 1000 then some (D.lst (a ++ b)) else none) = _
  rw [if_pos h]
theorem mOp_eq {o : MM → D → D → Option D} {f g : FE} {r : En} {M M1 M2 : MM} {x y z : D} (h1 : f r M = some (x, M1)) (h2 : g r M1 = some (y, M2)) (h3 : o M2 x y = some z) : mOp o f g r M = some (z, M2) := by
  unfold mOp
  rw [h1]
  simp only []
  rw [h2]
  simp only []
  rw [h3]
theorem eqvAll_self : ∀ {xs : List D}, (∀ x ∈ xs, oEqv x x = true) → PyData.eqvAll (pys xs) (pys xs) = true
  | [], _ => rfl
  | x :: xs, h => by
    show (PyData.eqv (py x) (py x) && PyData.eqvAll (pys xs) (pys xs)) = true
    rw [eqvAll_self fun y hy => h y (List.mem_cons_of_mem _ hy)]
    have := h x List.mem_cons_self
    unfold oEqv at this
    rw [this]
    rfl
theorem eqv_self : ∀ {n : Nat} {d : D}, good n d = true → oEqv d d = true
  | _, .non, _ => rfl
  | _, .bl b, _ => by cases b <;> rfl
  | _, .int i, _ => by
    show (i == i) = true
    simp
  | _, .str x, _ => by
    show (x == x) = true
    simp
  | 0, .tup xs, h => by cases h
  | n + 1, .tup xs, h => by
    simp only [good, Bool.and_eq_true, List.all_eq_true] at h
    exact eqvAll_self fun x hx => eqv_self (h.2 x hx)
  | 0, .lst xs, h => by cases h
  | n + 1, .lst xs, h => by
    simp only [good, Bool.and_eq_true, List.all_eq_true] at h
    exact eqvAll_self fun x hx => eqv_self (h.2 x hx)
  | n, .mu _, h => by cases n <;> cases h
  | n, .fz _, h => by cases n <;> cases h
  | n, .ct _, h => by cases n <;> cases h
  | n, .dk _ _, h => by cases n <;> cases h
  | n, .dt _ _, h => by cases n <;> cases h
  | n, .ins _ _ _, h => by cases n <;> cases h
theorem oEq_self {n : Nat} {d : D} {M : MM} (h : good n d = true) (hn : n ≤ 64) : oEq M d d = some (.bl true) := by
  have o := okD_of h hn
  have e := eqv_self h
  cases d with
  | int i =>
    show some (D.bl (i == i)) = _
    simp
  | str x =>
    show some (D.bl (x == x)) = _
    simp
  | bl b =>
    show some (D.bl (b == b)) = _
    simp
  | _ => simp only [oEq, o, e, Bool.and_self, if_true]
theorem oNe_self {n : Nat} {d : D} {M : MM} (h : good n d = true) (hn : n ≤ 64) : oNe M d d = some (.bl false) := by
  unfold oNe
  rw [oEq_self h hn]
  rfl
theorem mB_eq {f : FE} {r : En} {M M1 : MM} {b : Bool} (h : f r M = some (.bl b, M1)) : mB f r M = some (b, M1) := by
  unfold mB
  rw [h]
theorem mIfS_false {c : FB} {f g : FS} {r : En} {M M1 : MM} (h : c r M = some (false, M1)) : mIfS c f g r M = g r M1 := by
  unfold mIfS
  rw [h]
theorem mIfS_true {c : FB} {f g : FS} {r : En} {M M1 : MM} (h : c r M = some (true, M1)) : mIfS c f g r M = f r M1 := by
  unfold mIfS
  rw [h]
theorem mOr_two {f g : FE} {r : En} {M M1 : MM} {x : Option (D × MM)} (h : f r M = some (.bl false, M1)) (h2 : g r M1 = x) : mOr f g r M = x := by
  unfold mOr
  rw [h]
  exact h2
theorem mSeq_nx {f g : FS} {r r1 : En} {M M1 : MM} (h : f r M = some (.nx r1, M1)) : mSeq f g r M = g r1 M1 := by
  unfold mSeq
  rw [h]
def lT (cl : Fid → FC) : FS := (mSeq (mAsg (mCall (cl .Lsome) (mCons (mVar 1) (mCons (mLst (mCons (mC (.int 1)) (mCons (mC (.int 2)) (mCons (mC (.int 2)) (mCons (mC (.int 3)) mNil))))) mNil))) (tgName 3)) (mSeq (mPar2 4 5 (mCons (mCall (cl .Lcompany) (mCons (mVar 1) (mCons (mVar 3) (mCons (mC (.int 0)) (mCons (mC (.int 6)) mNil))))) (mCons (mCall (cl .Ldeed) (mCons (mVar 1) (mCons (mVar 3) mNil))) mNil))) (mIfS (mB (mOp oNe (mCall (cl .p_done) (mCons (mVar 3) (mCons (mVar 4) (mCons (mTup (mCons (mVar 5) mNil)) mNil)))) (mCall (cl .Lbehind) (mCons (mVar 4) (mCons (mVar 5) mNil))))) (mRet (mC (.bl false))) mSkip)))
def lS0 : FS := (mAsg (mTup (mCons (mTup (mCons (mC (.int 4)) (mCons (mTup (mCons (mTup (mCons (mC (.int 0)) (mCons (mC (.int 2)) mNil))) (mCons (mTup (mCons (mC (.int 1)) (mCons (mC (.int 3)) mNil))) mNil))) mNil))) (mCons (mTup (mCons (mC (.int 4)) (mCons (mTup (mCons (mTup (mCons (mC (.int 0)) (mCons (mC (.int 1)) mNil))) (mCons (mTup (mCons (mC (.int 0)) (mCons (mC (.int 2)) mNil))) (mCons (mTup (mCons (mC (.int 0)) (mCons (mC (.int 3)) mNil))) (mCons (mTup (mCons (mC (.int 1)) (mCons (mC (.int 2)) mNil))) (mCons (mTup (mCons (mC (.int 1)) (mCons (mC (.int 3)) mNil))) (mCons (mTup (mCons (mC (.int 2)) (mCons (mC (.int 3)) mNil))) mNil))))))) mNil))) mNil))) (tgTup 2 (tgCons (tgName 6) (tgCons (tgName 7) tgNil))))
def lS1 : FS := (mAsg (mLst (mCons (mTup (mCons (mC (.int 2)) (mCons (mVar 6) (mCons (mTup (mCons (mC (.str "takes")) (mCons (mC (.int 0)) (mCons (mC (.int 1)) (mCons (mTup (mCons (mC (.int 0)) (mCons (mC (.int 1)) (mCons (mC (.int 1)) (mCons (mC (.int 0)) mNil))))) mNil))))) (mCons (mTup (mCons (mTup (mCons (mC (.int 0)) (mCons (mC (.int 2)) mNil))) (mCons (mTup (mCons (mC (.int 0)) (mCons (mC (.int 3)) mNil))) (mCons (mTup (mCons (mC (.int 1)) (mCons (mC (.int 3)) mNil))) mNil)))) mNil))))) (mCons (mTup (mCons (mC (.int 2)) (mCons (mVar 6) (mCons (mTup (mCons (mC (.str "takes")) (mCons (mC (.int 1)) (mCons (mC (.int 0)) (mCons (mTup (mCons (mC (.int 0)) (mCons (mC (.int 1)) (mCons (mC (.int 0)) (mCons (mC (.int 1)) mNil))))) mNil))))) (mCons (mTup (mCons (mTup (mCons (mC (.int 0)) (mCons (mC (.int 2)) mNil))) (mCons (mTup (mCons (mC (.int 1)) (mCons (mC (.int 2)) mNil))) mNil))) mNil))))) mNil))) (tgName 8))
def lS2 : FS := (mAsg (mOp oAdd (mVar 8) (mLst (mCons (mTup (mCons (mC (.int 2)) (mCons (mVar 6) (mCons (mTup (mCons (mC (.str "pairs")) (mCons (mC (.int 0)) (mCons (mTup (mCons (mC (.int 1)) (mCons (mC (.int 0)) (mCons (mC (.int 0)) (mCons (mC (.int 0)) (mCons (mC (.int 0)) (mCons (mC (.int 1)) mNil))))))) mNil)))) (mCons (mTup (mCons (mTup (mCons (mC (.int 0)) (mCons (mC (.int 2)) mNil))) mNil)) mNil))))) (mCons (mTup (mCons (mC (.int 2)) (mCons (mVar 6) (mCons (mTup (mCons (mC (.str "pairs")) (mCons (mC (.int 0)) (mCons (mTup (mCons (mC (.int 0)) (mCons (mC (.int 1)) (mCons (mC (.int 0)) (mCons (mC (.int 1)) (mCons (mC (.int 1)) (mCons (mC (.int 1)) mNil))))))) mNil)))) (mCons (mTup (mCons (mTup (mCons (mC (.int 0)) (mCons (mC (.int 2)) mNil))) (mCons (mTup (mCons (mC (.int 1)) (mCons (mC (.int 2)) mNil))) (mCons (mTup (mCons (mC (.int 1)) (mCons (mC (.int 3)) mNil))) (mCons (mTup (mCons (mC (.int 2)) (mCons (mC (.int 3)) mNil))) mNil))))) mNil))))) mNil)))) (tgName 8))
def lS3 : FS := (mAsg (mOp oAdd (mVar 8) (mLst (mCons (mTup (mCons (mC (.int 2)) (mCons (mVar 6) (mCons (mTup (mCons (mC (.str "pairs")) (mCons (mC (.int 1)) (mCons (mTup (mCons (mC (.int 1)) (mCons (mC (.int 0)) (mCons (mC (.int 0)) (mCons (mC (.int 0)) (mCons (mC (.int 0)) (mCons (mC (.int 0)) mNil))))))) mNil)))) (mCons (mTup (mCons (mTup (mCons (mC (.int 1)) (mCons (mC (.int 3)) mNil))) mNil)) mNil))))) (mCons (mTup (mCons (mC (.int 1)) (mCons (mVar 6) (mCons (mTup (mCons (mC (.str "pairs")) (mCons (mC (.int 0)) (mCons (mTup (mCons (mC (.int 1)) (mCons (mC (.int 1)) (mCons (mC (.int 1)) (mCons (mC (.int 0)) (mCons (mC (.int 0)) (mCons (mC (.int 0)) mNil))))))) mNil)))) (mCons (mTup (mCons (mTup (mCons (mC (.int 0)) (mCons (mC (.int 2)) mNil))) (mCons (mTup (mCons (mC (.int 1)) (mCons (mC (.int 2)) mNil))) (mCons (mTup (mCons (mC (.int 2)) (mCons (mC (.int 3)) mNil))) mNil)))) mNil))))) mNil)))) (tgName 8))
def lS4 : FS := (mAsg (mOp oAdd (mVar 8) (mLst (mCons (mTup (mCons (mC (.int 2)) (mCons (mVar 6) (mCons (mTup (mCons (mC (.str "tie")) (mCons (mC (.int 0)) (mCons (mC (.int 1)) (mCons (mC (.str "know")) mNil))))) (mCons (mTup (mCons (mTup (mCons (mC (.int 0)) (mCons (mC (.int 1)) mNil))) (mCons (mTup (mCons (mC (.int 0)) (mCons (mC (.int 2)) mNil))) (mCons (mTup (mCons (mC (.int 1)) (mCons (mC (.int 3)) mNil))) mNil)))) mNil))))) (mCons (mTup (mCons (mC (.int 2)) (mCons (mVar 6) (mCons (mTup (mCons (mC (.str "tie")) (mCons (mC (.int 1)) (mCons (mC (.int 0)) (mCons (mC (.str "turn")) mNil))))) (mCons (mTup (mCons (mTup (mCons (mC (.int 0)) (mCons (mC (.int 1)) mNil))) (mCons (mTup (mCons (mC (.int 0)) (mCons (mC (.int 2)) mNil))) (mCons (mTup (mCons (mC (.int 1)) (mCons (mC (.int 3)) mNil))) mNil)))) mNil))))) (mCons (mTup (mCons (mC (.int 2)) (mCons (mVar 6) (mCons (mTup (mCons (mC (.str "tie")) (mCons (mC (.int 0)) (mCons (mC (.int 1)) (mCons (mC (.str "part")) mNil))))) (mCons (mTup (mCons (mTup (mCons (mC (.int 0)) (mCons (mC (.int 2)) mNil))) (mCons (mTup (mCons (mC (.int 1)) (mCons (mC (.int 3)) mNil))) mNil))) mNil))))) mNil))))) (tgName 8))
def lS5 : FS := (mAsg (mOp oAdd (mVar 8) (mLst (mCons (mTup (mCons (mC (.int 3)) (mCons (mVar 6) (mCons (mTup (mCons (mC (.str "takes")) (mCons (mC (.int 0)) (mCons (mC (.int 1)) (mCons (mTup (mCons (mC (.int 1)) (mCons (mC (.int 1)) (mCons (mC (.int 0)) (mCons (mC (.int 0)) mNil))))) mNil))))) (mCons (mTup (mCons (mTup (mCons (mC (.int 0)) (mCons (mC (.int 3)) mNil))) (mCons (mTup (mCons (mC (.int 1)) (mCons (mC (.int 3)) mNil))) mNil))) mNil))))) (mCons (mTup (mCons (mC (.int 3)) (mCons (mVar 6) (mCons (mTup (mCons (mC (.str "pairs")) (mCons (mC (.int 2)) (mCons (mTup (mCons (mC (.int 0)) (mCons (mC (.int 0)) (mCons (mC (.int 0)) (mCons (mC (.int 0)) (mCons (mC (.int 1)) (mCons (mC (.int 0)) mNil))))))) mNil)))) (mCons (mTup (mCons (mTup (mCons (mC (.int 0)) (mCons (mC (.int 2)) mNil))) mNil)) mNil))))) (mCons (mTup (mCons (mC (.int 3)) (mCons (mVar 6) (mCons (mTup (mCons (mC (.str "tie")) (mCons (mC (.int 2)) (mCons (mC (.int 0)) (mCons (mC (.str "turn")) mNil))))) (mCons (mTup (mCons (mTup (mCons (mC (.int 1)) (mCons (mC (.int 3)) mNil))) mNil)) mNil))))) mNil))))) (tgName 8))
def lS6 : FS := (mAsg (mOp oAdd (mVar 8) (mLst (mCons (mTup (mCons (mC (.int 2)) (mCons (mVar 7) (mCons (mTup (mCons (mC (.str "pairs")) (mCons (mC (.int 0)) (mCons (mTup (mCons (mC (.int 1)) (mCons (mC (.int 1)) (mCons (mC (.int 1)) (mCons (mC (.int 1)) (mCons (mC (.int 1)) (mCons (mC (.int 0)) mNil))))))) mNil)))) (mCons (mTup (mCons (mTup (mCons (mC (.int 0)) (mCons (mC (.int 1)) mNil))) (mCons (mTup (mCons (mC (.int 0)) (mCons (mC (.int 2)) mNil))) (mCons (mTup (mCons (mC (.int 0)) (mCons (mC (.int 3)) mNil))) mNil)))) mNil))))) (mCons (mTup (mCons (mC (.int 2)) (mCons (mVar 7) (mCons (mTup (mCons (mC (.str "takes")) (mCons (mC (.int 0)) (mCons (mC (.int 1)) (mCons (mTup (mCons (mC (.int 1)) (mCons (mC (.int 1)) (mCons (mC (.int 1)) (mCons (mC (.int 0)) mNil))))) mNil))))) (mCons (mTup (mCons (mTup (mCons (mC (.int 0)) (mCons (mC (.int 1)) mNil))) (mCons (mTup (mCons (mC (.int 1)) (mCons (mC (.int 2)) mNil))) (mCons (mTup (mCons (mC (.int 1)) (mCons (mC (.int 3)) mNil))) (mCons (mTup (mCons (mC (.int 2)) (mCons (mC (.int 3)) mNil))) mNil))))) mNil))))) mNil)))) (tgName 8))
def lS7 (cl : Fid → FC) : FS := (mIfS (mB (mOp oNe (mLc itemsL (mVar 8) (tgTup 4 (tgCons (tgName 3) (tgCons (tgName 4) (tgCons (tgName 5) (tgCons (tgName 9) tgNil))))) (mB (mOp oNe (mCall (cl .p_done) (mCons (mVar 3) (mCons (mVar 4) (mCons (mTup (mCons (mVar 5) mNil)) mNil)))) (mTup (mCons (mC (.int 4)) (mCons (mVar 9) mNil))))) (mC (.int 1)) [3, 4, 5, 9]) (mLst mNil))) (mRet (mC (.bl false))) mSkip)
def lS8 (cl : Fid → FC) : FS := (mIfS (mB (mOr (mOp oNe (mCall (cl .p_done) (mCons (mC (.int 1)) (mCons (mTup (mCons (mC (.int 1)) (mCons (mTup mNil) mNil))) (mCons (mTup (mCons (mTup (mCons (mC (.str "pairs")) (mCons (mC (.int 0)) (mCons (mOp oMul (mTup (mCons (mC (.int 1)) mNil)) (mC (.int 6))) mNil)))) mNil)) mNil)))) (mTup (mCons (mC (.int 1)) (mCons (mTup mNil) mNil)))) (mOp oNe (mCall (cl .p_done) (mCons (mC (.int 1)) (mCons (mTup (mCons (mC (.int 2)) (mCons (mTup mNil) mNil))) (mCons (mTup (mCons (mTup (mCons (mC (.str "pairs")) (mCons (mC (.int 0)) (mCons (mOp oMul (mTup (mCons (mC (.int 1)) mNil)) (mC (.int 6))) mNil)))) mNil)) mNil)))) (mTup (mCons (mC (.int 2)) (mCons (mTup mNil) mNil)))))) (mRet (mC (.bl false))) mSkip)
def lS9 (cl : Fid → FC) : FS := (mIfS (mB (mOr (mOp oNe (mCall (cl .p_done) (mCons (mC (.int 2)) (mCons (mTup (mCons (mC (.int 2)) (mCons (mTup mNil) mNil))) (mCons (mTup (mCons (mTup (mCons (mC (.str "takes")) (mCons (mC (.int 0)) (mCons (mC (.int 1)) (mCons (mOp oMul (mTup (mCons (mC (.int 1)) mNil)) (mC (.int 4))) mNil))))) mNil)) mNil)))) (mTup (mCons (mC (.int 2)) (mCons (mTup mNil) mNil)))) (mOp oNe (mCall (cl .p_done) (mCons (mC (.int 2)) (mCons (mTup (mCons (mC (.int 3)) (mCons (mTup mNil) mNil))) (mCons (mTup (mCons (mTup (mCons (mC (.str "pairs")) (mCons (mC (.int 1)) (mCons (mOp oMul (mTup (mCons (mC (.int 1)) mNil)) (mC (.int 6))) mNil)))) mNil)) mNil)))) (mTup (mCons (mC (.int 3)) (mCons (mTup (mCons (mTup (mCons (mC (.int 0)) (mCons (mC (.int 2)) mNil))) mNil)) mNil)))))) (mRet (mC (.bl false))) mSkip)
def lS10 (cl : Fid → FC) : FS := (mRet (mOp oEq (mCall (cl .p_done) (mCons (mC (.int 1)) (mCons (mTup (mCons (mC (.int 4)) (mCons (mTup (mCons (mTup (mCons (mC (.int 0)) (mCons (mC (.int 1)) mNil))) (mCons (mTup (mCons (mC (.int 0)) (mCons (mC (.int 2)) mNil))) mNil))) mNil))) (mCons (mTup (mCons (mTup (mCons (mC (.str "pairs")) (mCons (mC (.int 0)) (mCons (mTup (mCons (mC (.int 0)) (mCons (mC (.int 1)) (mCons (mC (.int 0)) (mCons (mC (.int 0)) (mCons (mC (.int 0)) (mCons (mC (.int 0)) mNil))))))) mNil)))) mNil)) mNil)))) (mTup (mCons (mC (.int 4)) (mCons (mTup (mCons (mTup (mCons (mC (.int 0)) (mCons (mC (.int 1)) mNil))) (mCons (mTup (mCons (mC (.int 0)) (mCons (mC (.int 2)) mNil))) (mCons (mTup (mCons (mC (.int 1)) (mCons (mC (.int 3)) mNil))) (mCons (mTup (mCons (mC (.int 2)) (mCons (mC (.int 3)) mNil))) mNil))))) mNil)))))
theorem law_eq (cl : Fid → FC) : B_Law cl = mMu 1 g_Lcup (mCons (mVar 0) mNil) (mSeq (mForR rng1 (mCons (mC (.int 12)) mNil) (tgName 2) (lT cl)) (mSeq (lS0) (mSeq (lS1) (mSeq (lS2) (mSeq (lS3) (mSeq (lS4) (mSeq (lS5) (mSeq (lS6) (mSeq (lS7 cl) (mSeq (lS8 cl) (mSeq (lS9 cl) (lS10 cl)))))))))))) := rfl

/-! ### the cup of the law -/
theorem g_lcup {ns : List Int} (hl : ns.length ≤ 63) {d : D} (hd : d = .fz (ns.map D.int) ∨ d = .lst (ns.map D.int)) : ∃ a b : Int, g_Lcup [d] [] = some ([.int a, .int b], []) ∧ 0 ≤ a ∧ 0 ≤ b ∧ b < 1099511627776 := by
  have h0 : ∃ i : Int, atI (ns.map D.int ++ [D.int 0]) 0 = some (.int i) := by
    cases ns with
    | nil => exact ⟨0, at0 _ _⟩
    | cons x xs => exact ⟨x, at0 _ _⟩
  obtain ⟨i, hi⟩ := h0
  have hv : ∃ v : Int, (if i < 0 then -i else i) = v ∧ 0 ≤ v := by
    by_cases h : i < 0
    · exact ⟨-i, if_pos h, by omega⟩
    · exact ⟨i, if_neg h, by omega⟩
  obtain ⟨v, hv, hv0⟩ := hv
  have hb0 : 0 ≤ (v * 251 + 2111) % 2077503301 := Int.emod_nonneg _ (by decide)
  have hb1 : (v * 251 + 2111) % 2077503301 < 2077503301 := Int.emod_lt_of_pos _ (by decide)
  have l1 : (ns.map D.int).length + ([D.int 0] : List D).length ≤ 1000 := by simp; omega
  have oA : oAdd [] (.lst (ns.map D.int)) (.lst [.int 0]) = some (.lst (ns.map D.int ++ [.int 0])) := oAdd_ll l1
  have oX : oIx [] (.lst (ns.map D.int ++ [.int 0])) (.int 0) = some (.int i) := hi
  have oB : oAbs [] [.int i] = some (.int v) := by
    rw [← hv]
    rfl
  have oM : oMul [] (.int v) (.int 251) = some (.int (v * 251)) := if_pos (.inr (by decide))
  have oP : oPow [] (.int 10) (.int 18) = some (.int 1000000000000000000) := by
    have q : (10 : Int) ^ (18 : Int).toNat = 1000000000000000000 := by decide +kernel
    show (if (0 : Int) ≤ 18 ∧ (18 : Int) ≤ 1000000 ∧ (10 : Int).natAbs < 2 ^ 64 then some (D.int ((10 : Int) ^ (18 : Int).toNat)) else none) = _
    rw [if_pos (by decide), q]
  have oR : ∀ x : Int, oMod [] (.int x) (.int 2077503301) = some (.int (x % 2077503301)) := fun x => by
    show (if (0 : Int) < 2077503301 then some (D.int (x % 2077503301)) else none) = _
    exact if_pos (by decide)
  have oD : oDiv [] (.int v) (.int 43) = some (.int (v / 43)) := by
    show (if (0 : Int) < 43 ∧ (43 : Int) < 1073741824 then some (D.int (v / 43)) else none) = _
    exact if_pos (by decide)
  have oC : ∀ x y : Int, oAdd [] (.int x) (.int y) = some (.int (x + y)) := fun _ _ => rfl
  have oN : ∀ x : Int, oInt [] [.int x] = some (.int x) := fun _ => rfl
  have oG : ∀ x y : Int, oGe [] (.int x) (.int y) = some (.bl (decide (y ≤ x))) := fun _ _ => rfl
  have oL : oList [] [d] = some (.lst (ns.map D.int)) := by
    rcases hd with rfl | rfl <;> rfl
  have s0 : startD 2 [d] = [some d, none] := rfl
  by_cases hbig : (1000000000000000000 : Int) ≤ v
  · refine ⟨v / 43, (v * 251 + 2111) % 2077503301 + 137, ?_, Int.ediv_nonneg hv0 (by decide), by omega, by omega⟩
    unfold g_Lcup mFunF
    rw [s0]
    simp only [mAsg, mFn, mCons, mNil, mVar, mC, mOp, mLst, mIf, tgName, List.getElem?_cons_zero, List.getElem?_cons_succ, List.set_cons_zero, List.set_cons_succ, oL, oA, oX, oB, oM, oP, oR, oD, oC, oN, oG, decide_eq_true hbig]
  · refine ⟨0, (v * 251 + 2111) % 2077503301 + 137, ?_, by decide, by omega, by omega⟩
    unfold g_Lcup mFunF
    rw [s0]
    simp only [mAsg, mFn, mCons, mNil, mVar, mC, mOp, mLst, mIf, tgName, List.getElem?_cons_zero, List.getElem?_cons_succ, List.set_cons_zero, List.set_cons_succ, oL, oA, oX, oB, oM, oP, oR, oD, oC, oN, oG, decide_eq_false hbig]

def lE (d : D) (e2 e3 e4 e5 e6 e7 e8 e9 : Option D) : En := [some d, some (.mu 0), e2, e3, e4, e5, e6, e7, e8, e9]
theorem nd_ord {ts : List (Int × Int)} (h : ordB ts = true) : ts.Nodup := by
  refine (ordB_iff.mp h).imp fun {p q} hlt e => ?_
  subst e
  unfold ltP at hlt
  omega
theorem l_turn (d : D) (e2 e3 e4 e5 e6 e7 e8 e9 : Option D) {M : MM} (c : Cup [] M) : ∃ (f3 f4 f5 : Option D) (M' : MM), lT (G HasC.c (41)) (lE d e2 e3 e4 e5 e6 e7 e8 e9) M = some (.nx (lE d e2 f3 f4 f5 e6 e7 e8 e9), M') ∧ Cup [] M' := by
  obtain ⟨x, M1, h1, hx, c1⟩ := cup_some 39 c [.int 1, .int 2, .int 2, .int 3] (by simp) (by simp)
  have hk : ∃ k : Nat, x = .int (k : Int) ∧ 1 ≤ k ∧ k ≤ 3 := by
    simp only [List.mem_cons, List.not_mem_nil, or_false] at hx
    rcases hx with rfl | rfl | rfl | rfl
    · exact ⟨1, rfl, by decide, by decide⟩
    · exact ⟨2, rfl, by decide, by decide⟩
    · exact ⟨2, rfl, by decide, by decide⟩
    · exact ⟨3, rfl, by decide, by decide⟩
  obtain ⟨k, rfl, k1, k3⟩ := hk
  obtain ⟨n, ts, M2, h2, co, hl, c2⟩ := g_Lcompany 39 k k1 k3 c1
  obtain ⟨dd, M3, h3, ok, c3⟩ := g_Ldeed 38 k k1 k3 c2
  obtain ⟨a, b, rfl, ha, hb, hb2⟩ := c3
  have h4 := g_done co (nd_ord co.ord) 32 dd ok a b
  have h5 := g_Lbehind co 38 dd ok a b
  have pl : ((allP n).filter (outC n (fun p => decide (p ∈ ts)) dd)).length ≤ 1000 := by
    have h := List.length_filter_le (outC n (fun p => decide (p ∈ ts)) dd) (allP n)
    have h2 := allP_len n co.n9
    omega
  have hn : oNe [.lst [.int a, .int b]] (cD n ((allP n).filter (outC n (fun p => decide (p ∈ ts)) dd))) (cD n ((allP n).filter (outC n (fun p => decide (p ∈ ts)) dd))) = some (.bl false) := oNe_self (n := 3) (good_cD pl) (by decide)
  refine ⟨some (.int k), some (cD n ts), some (deedD dd), [.lst [.int a, .int b]], ?_, ⟨a, b, rfl, ha, hb, hb2⟩⟩
  have h1' : G HasC.c (41) .Lsome [.mu 0, .lst [.int 1, .int 2, .int 2, .int 3]] M = some (.int k, M1) := h1
  have h2' : G HasC.c (41) .Lcompany [.mu 0, .int k, .int 0, .int 6] M1 = some (cD n ts, M2) := h2
  have h3' : G HasC.c (41) .Ldeed [.mu 0, .int k] M2 = some (deedD dd, [.lst [.int a, .int b]]) := h3
  have h4' : G HasC.c (41) .p_done [.int k, cD n ts, .tup [deedD dd]] [.lst [.int a, .int b]] = _ := h4
  have h5' : G HasC.c (41) .Lbehind [cD n ts, deedD dd] [.lst [.int a, .int b]] = _ := h5
  unfold cup at h4' h5'
  generalize cD n ((allP n).filter (outC n (fun p => decide (p ∈ ts)) dd)) = z at *
  generalize cD n ts = x at *
  generalize deedD dd = y at *
  have s1 : mAsg (mCall (G HasC.c (41) .Lsome) (mCons (mVar 1) (mCons (mLst (mCons (mC (.int 1)) (mCons (mC (.int 2)) (mCons (mC (.int 2)) (mCons (mC (.int 3)) mNil))))) mNil))) (tgName 3) (lE d e2 e3 e4 e5 e6 e7 e8 e9) M = some (.nx (lE d e2 (some (.int k)) e4 e5 e6 e7 e8 e9), M1) := by
    simp only [lE, mAsg, mCall, mCons, mNil, mLst, mVar, mC, tgName, List.getElem?_cons_zero, List.getElem?_cons_succ, List.set_cons_zero, List.set_cons_succ, h1']
  have s2 : mPar2 4 5 (mCons (mCall (G HasC.c (41) .Lcompany) (mCons (mVar 1) (mCons (mVar 3) (mCons (mC (.int 0)) (mCons (mC (.int 6)) mNil))))) (mCons (mCall (G HasC.c (41) .Ldeed) (mCons (mVar 1) (mCons (mVar 3) mNil))) mNil)) (lE d e2 (some (.int k)) e4 e5 e6 e7 e8 e9) M1 = some (.nx (lE d e2 (some (.int k)) (some x) (some y) e6 e7 e8 e9), [.lst [.int a, .int b]]) := by
    simp only [lE, mPar2, mCall, mCons, mNil, mVar, mC, List.getElem?_cons_zero, List.getElem?_cons_succ, List.set_cons_zero, List.set_cons_succ, h2', h3']
  unfold lT
  rw [mSeq_nx' s1, mSeq_nx' s2]
  simp only [lE, mIfS, mB, mOp, mSkip, mCall, mCons, mNil, mTup, mVar, List.getElem?_cons_zero, List.getElem?_cons_succ, h4', h5', hn]
theorem l_turns (d : D) : ∀ (ds : List D) (e2 e3 e4 e5 e6 e7 e8 e9 : Option D) {M : MM}, Cup [] M → ∃ (f2 f3 f4 f5 : Option D) (M' : MM), forD (tgName 2) (lT (G HasC.c (41))) ds (lE d e2 e3 e4 e5 e6 e7 e8 e9) M = some (.nx (lE d f2 f3 f4 f5 e6 e7 e8 e9), M') ∧ Cup [] M'
  | [], e2, e3, e4, e5, e6, e7, e8, e9, M, c => ⟨e2, e3, e4, e5, M, rfl, c⟩
  | x :: ds, e2, e3, e4, e5, e6, e7, e8, e9, M, c => by
    obtain ⟨f3, f4, f5, M1, q1, c1⟩ := l_turn d (some x) e3 e4 e5 e6 e7 e8 e9 c
    obtain ⟨g2, g3, g4, g5, M2, q2, c2⟩ := l_turns d ds (some x) f3 f4 f5 e6 e7 e8 e9 c1
    refine ⟨g2, g3, g4, g5, M2, ?_, c2⟩
    rw [← q2]
    show forD _ _ (x :: ds) _ _ = _
    rw [forD]
    have tg : tgName 2 x (lE d e2 e3 e4 e5 e6 e7 e8 e9) = some (lE d (some x) e3 e4 e5 e6 e7 e8 e9) := rfl
    rw [tg]
    dsimp only
    rw [q1]

/-! ### the rows -/
structure Rw where
  k : Nat
  n : Nat
  ts : List (Int × Int)
  dd : Deed
  out : List (Int × Int)
def okDB (k : Nat) : Deed → Bool
  | .pairs d as => decide (0 ≤ d) && (decide (d < (k : Int)) && decide (as.length = 6))
  | .takes i j as => decide (0 ≤ i) && (decide (i < (k : Int)) && (decide (0 ≤ j) && (decide (j < (k : Int)) && (decide (i ≠ j) && decide (as.length = 4)))))
  | .tie i j w => decide (0 ≤ i) && (decide (i < (k : Int)) && (decide (0 ≤ j) && (decide (j < (k : Int)) && (decide (i ≠ j) && decide (w = "know" ∨ w = "part" ∨ w = "turn")))))
theorem okDB_ok {k : Nat} : ∀ {dd : Deed}, okDB k dd = true → okDeed k dd
  | .pairs d as, h => by
    simp only [okDB, Bool.and_eq_true, decide_eq_true_eq] at h
    exact h
  | .takes i j as, h => by
    simp only [okDB, Bool.and_eq_true, decide_eq_true_eq] at h
    exact h
  | .tie i j w, h => by
    simp only [okDB, Bool.and_eq_true, decide_eq_true_eq] at h
    exact h
def okRw (r : Rw) : Bool := decide (1 ≤ r.k) && (decide (r.k ≤ 3) && (decide (r.k ≤ r.n) && (decide (r.n ≤ 9) && (r.ts.all (fun p => decide (p ∈ allP r.n)) && (ordB r.ts && (okDB r.k r.dd && (decide (r.out.length ≤ 1000) && decide ((allP r.n).filter (outC r.n (fun p => decide (p ∈ r.ts)) r.dd) = r.out))))))))
theorem g_row (r : Rw) (h : okRw r = true) (a b : Int) : G HasC.c (41) .p_done [.int r.k, cD r.n r.ts, .tup [deedD r.dd]] [.lst [.int a, .int b]] = some (cD r.n r.out, [.lst [.int a, .int b]]) := by
  simp only [okRw, Bool.and_eq_true, decide_eq_true_eq, List.all_eq_true] at h
  obtain ⟨h1, h2, h3, h4, h5, h6, h7, h8, h9⟩ := h
  have co : Co r.k r.n r.ts := ⟨h1, h2, h3, h4, fun p hp => mem_allP.mp (h5 p hp), h6⟩
  have g := g_done co (nd_ord h6) 32 r.dd (okDB_ok h7) a b
  rw [h9] at g
  exact g
def t4 : List (Int × Int) := [(0, 2), (1, 3)]
def t6 : List (Int × Int) := [(0, 1), (0, 2), (0, 3), (1, 2), (1, 3), (2, 3)]
def b4 (w x y z : Bool) : List Bool := [w, x, y, z]
def rwA : List Rw := [⟨2, 4, t4, .takes 0 1 [false, true, true, false], [(0, 2), (0, 3), (1, 3)]⟩, ⟨2, 4, t4, .takes 1 0 [false, true, false, true], [(0, 2), (1, 2)]⟩]
def rwB : List Rw := [⟨2, 4, t4, .pairs 0 [true, false, false, false, false, true], [(0, 2)]⟩, ⟨2, 4, t4, .pairs 0 [false, true, false, true, true, true], [(0, 2), (1, 2), (1, 3), (2, 3)]⟩]
def rwC : List Rw := [⟨2, 4, t4, .pairs 1 [true, false, false, false, false, false], [(1, 3)]⟩, ⟨1, 4, t4, .pairs 0 [true, true, true, false, false, false], [(0, 2), (1, 2), (2, 3)]⟩]
def rwE : List Rw := [⟨2, 4, t4, .tie 0 1 "know", [(0, 1), (0, 2), (1, 3)]⟩, ⟨2, 4, t4, .tie 1 0 "turn", [(0, 1), (0, 2), (1, 3)]⟩, ⟨2, 4, t4, .tie 0 1 "part", [(0, 2), (1, 3)]⟩]
def rwF : List Rw := [⟨3, 4, t4, .takes 0 1 [true, true, false, false], [(0, 3), (1, 3)]⟩, ⟨3, 4, t4, .pairs 2 [false, false, false, false, true, false], [(0, 2)]⟩, ⟨3, 4, t4, .tie 2 0 "turn", [(1, 3)]⟩]
def rwG : List Rw := [⟨2, 4, t6, .pairs 0 [true, true, true, true, true, false], [(0, 1), (0, 2), (0, 3)]⟩, ⟨2, 4, t6, .takes 0 1 [true, true, true, false], [(0, 1), (1, 2), (1, 3), (2, 3)]⟩]
def rwD (r : Rw) : D := .tup [.int r.k, cD r.n r.ts, deedD r.dd, .tup (r.out.map pD)]
def rwS : List Rw := rwA ++ rwB ++ rwC ++ rwE ++ rwF ++ rwG
theorem rw_ok : ∀ r ∈ rwS, okRw r = true ∧ r.n = 4 ∧ r.out.length ≤ 1000 := by decide +kernel
theorem l_0 (d : D) (e2 e3 e4 e5 e6 e7 e8 e9 : Option D) (M : MM) : lS0 (lE d e2 e3 e4 e5 e6 e7 e8 e9) M = some (.nx (lE d e2 e3 e4 e5 (some (cD 4 t4)) (some (cD 4 t6)) e8 e9), M) := rfl
theorem l_1 (d : D) (e2 e3 e4 e5 e8 e9 : Option D) (M : MM) : lS1 (lE d e2 e3 e4 e5 (some (cD 4 t4)) (some (cD 4 t6)) e8 e9) M = some (.nx (lE d e2 e3 e4 e5 (some (cD 4 t4)) (some (cD 4 t6)) (some (.lst (rwA.map rwD))) e9), M) := rfl
theorem l_2 (d : D) (e2 e3 e4 e5 e9 : Option D) (M : MM) : lS2 (lE d e2 e3 e4 e5 (some (cD 4 t4)) (some (cD 4 t6)) (some (.lst (rwA.map rwD))) e9) M = some (.nx (lE d e2 e3 e4 e5 (some (cD 4 t4)) (some (cD 4 t6)) (some (.lst ((rwA ++ rwB).map rwD))) e9), M) := rfl
theorem l_3 (d : D) (e2 e3 e4 e5 e9 : Option D) (M : MM) : lS3 (lE d e2 e3 e4 e5 (some (cD 4 t4)) (some (cD 4 t6)) (some (.lst ((rwA ++ rwB).map rwD))) e9) M = some (.nx (lE d e2 e3 e4 e5 (some (cD 4 t4)) (some (cD 4 t6)) (some (.lst ((rwA ++ rwB ++ rwC).map rwD))) e9), M) := rfl
theorem l_4 (d : D) (e2 e3 e4 e5 e9 : Option D) (M : MM) : lS4 (lE d e2 e3 e4 e5 (some (cD 4 t4)) (some (cD 4 t6)) (some (.lst ((rwA ++ rwB ++ rwC).map rwD))) e9) M = some (.nx (lE d e2 e3 e4 e5 (some (cD 4 t4)) (some (cD 4 t6)) (some (.lst ((rwA ++ rwB ++ rwC ++ rwE).map rwD))) e9), M) := rfl
theorem l_5 (d : D) (e2 e3 e4 e5 e9 : Option D) (M : MM) : lS5 (lE d e2 e3 e4 e5 (some (cD 4 t4)) (some (cD 4 t6)) (some (.lst ((rwA ++ rwB ++ rwC ++ rwE).map rwD))) e9) M = some (.nx (lE d e2 e3 e4 e5 (some (cD 4 t4)) (some (cD 4 t6)) (some (.lst ((rwA ++ rwB ++ rwC ++ rwE ++ rwF).map rwD))) e9), M) := rfl
theorem l_6 (d : D) (e2 e3 e4 e5 e9 : Option D) (M : MM) : lS6 (lE d e2 e3 e4 e5 (some (cD 4 t4)) (some (cD 4 t6)) (some (.lst ((rwA ++ rwB ++ rwC ++ rwE ++ rwF).map rwD))) e9) M = some (.nx (lE d e2 e3 e4 e5 (some (cD 4 t4)) (some (cD 4 t6)) (some (.lst (rwS.map rwD))) e9), M) := rfl
theorem rng1_n (j : Nat) (h : j ≤ 1000) : rng1 [.int (j : Int)] = some (0, (j : Int)) := by
  show (if (j : Int).natAbs ≤ 1000000 then some ((0 : Int), (j : Int)) else none) = _
  rw [if_pos (by omega)]
theorem mForR_eq {rg : List D → Option (Int × Int)} {fa : FA} {tg : FT} {f : FS} {r : En} {M M1 : MM} {ds : List D} {i j : Int} (h1 : fa r M = some (ds, M1)) (h2 : rg ds = some (i, j)) : mForR rg fa tg f r M = forD tg f (rangeD i (j - i).toNat) r M1 := by
  unfold mForR
  rw [h1]
  simp only []
  rw [h2]

theorem rgd_cD {n : Nat} {ts : List (Int × Int)} (h : ts.length ≤ 1000) (M : MM) : oNe M (cD n ts) (cD n ts) = some (.bl false) := oNe_self (n := 3) (good_cD h) (by decide)
theorem l_7 (d : D) (e2 e3 e4 e5 e6 e7 : Option D) (a b : Int) : lS7 (G HasC.c (41)) (lE d e2 e3 e4 e5 e6 e7 (some (.lst (rwS.map rwD))) none) [.lst [.int a, .int b]] = some (.nx (lE d e2 e3 e4 e5 e6 e7 (some (.lst (rwS.map rwD))) none), [.lst [.int a, .int b]]) := by
  have lc : lcD (tgTup 4 (tgCons (tgName 3) (tgCons (tgName 4) (tgCons (tgName 5) (tgCons (tgName 9) tgNil))))) (mB (mOp oNe (mCall (G HasC.c (41) .p_done) (mCons (mVar 3) (mCons (mVar 4) (mCons (mTup (mCons (mVar 5) mNil)) mNil)))) (mTup (mCons (mC (.int 4)) (mCons (mVar 9) mNil))))) (mC (.int 1)) (wipeD (lE d e2 e3 e4 e5 e6 e7 (some (.lst (rwS.map rwD))) none) [3, 4, 5, 9]) (rwS.map rwD) [.lst [.int a, .int b]] = some (((rwS.map rwD).filter fun _ => false).map fun _ => .int 1, [.lst [.int a, .int b]]) := by
    refine lcD_filter (fun _ => false) (fun _ => .int 1) fun x hx => ?_
    obtain ⟨y, hy, rfl⟩ := List.mem_map.mp hx
    obtain ⟨hk, hn, hl⟩ := rw_ok y hy
    have g := g_row y hk a b
    have q := rgd_cD (n := y.n) hl [.lst [.int a, .int b]]
    refine ⟨lE d e2 (some (.int y.k)) (some (cD y.n y.ts)) (some (deedD y.dd)) e6 e7 (some (.lst (rwS.map rwD))) (some (.tup (y.out.map pD))), rfl, ?_, fun h => by cases h⟩
    have f1 : mCall (G HasC.c (41) .p_done) (mCons (mVar 3) (mCons (mVar 4) (mCons (mTup (mCons (mVar 5) mNil)) mNil))) (lE d e2 (some (.int y.k)) (some (cD y.n y.ts)) (some (deedD y.dd)) e6 e7 (some (.lst (rwS.map rwD))) (some (.tup (y.out.map pD)))) [.lst [.int a, .int b]] = some (cD y.n y.out, [.lst [.int a, .int b]]) := by
      generalize cD y.n y.ts = u at *
      generalize deedD y.dd = v at *
      generalize cD y.n y.out = w at *
      simp only [lE, mCall, mCons, mNil, mTup, mVar, List.getElem?_cons_zero, List.getElem?_cons_succ, g]
    have f2 : mTup (mCons (mC (.int 4)) (mCons (mVar 9) mNil)) (lE d e2 (some (.int y.k)) (some (cD y.n y.ts)) (some (deedD y.dd)) e6 e7 (some (.lst (rwS.map rwD))) (some (.tup (y.out.map pD)))) [.lst [.int a, .int b]] = some (cD y.n y.out, [.lst [.int a, .int b]]) := by
      rw [hn]
      rfl
    exact mB_eq (mOp_eq f1 f2 q)
  have f2 : mLc itemsL (mVar 8) (tgTup 4 (tgCons (tgName 3) (tgCons (tgName 4) (tgCons (tgName 5) (tgCons (tgName 9) tgNil))))) (mB (mOp oNe (mCall (G HasC.c (41) .p_done) (mCons (mVar 3) (mCons (mVar 4) (mCons (mTup (mCons (mVar 5) mNil)) mNil)))) (mTup (mCons (mC (.int 4)) (mCons (mVar 9) mNil))))) (mC (.int 1)) [3, 4, 5, 9] (lE d e2 e3 e4 e5 e6 e7 (some (.lst (rwS.map rwD))) none) [.lst [.int a, .int b]] = some (.lst [], [.lst [.int a, .int b]]) := by
    have v : mVar 8 (lE d e2 e3 e4 e5 e6 e7 (some (.lst (rwS.map rwD))) none) [.lst [.int a, .int b]] = some (.lst (rwS.map rwD), [.lst [.int a, .int b]]) := rfl
    unfold mLc
    rw [v]
    simp only [itemsL]
    rw [if_pos (by decide), lc]
    rfl
  have q0 : oNe [.lst [.int a, .int b]] (.lst []) (.lst []) = some (.bl false) := oNe_self (n := 1) rfl (by decide)
  unfold lS7
  rw [mIfS_false (mB_eq (mOp_eq f2 (rfl : mLst mNil _ [.lst [.int a, .int b]] = some (.lst [], [.lst [.int a, .int b]])) q0))]
  rfl
def r1 : Rw := ⟨1, 1, [], .pairs 0 [true, true, true, true, true, true], []⟩
def r2 : Rw := ⟨1, 2, [], .pairs 0 [true, true, true, true, true, true], []⟩
def r3 : Rw := ⟨2, 2, [], .takes 0 1 [true, true, true, true], []⟩
def r4 : Rw := ⟨2, 3, [], .pairs 1 [true, true, true, true, true, true], [(0, 2)]⟩
def r5 : Rw := ⟨1, 4, [(0, 1), (0, 2)], .pairs 0 [false, true, false, false, false, false], [(0, 1), (0, 2), (1, 3), (2, 3)]⟩
theorem r_ok : okRw r1 = true ∧ okRw r2 = true ∧ okRw r3 = true ∧ okRw r4 = true ∧ okRw r5 = true := by decide +kernel
theorem l_8 (e : En) (a b : Int) : lS8 (G HasC.c (41)) e [.lst [.int a, .int b]] = some (.nx e, [.lst [.int a, .int b]]) := by
  have g1 := g_row r1 r_ok.1 a b
  have g2 := g_row r2 r_ok.2.1 a b
  have q1 := rgd_cD (n := 1) (ts := []) (by decide) [.lst [.int a, .int b]]
  have q2 := rgd_cD (n := 2) (ts := []) (by decide) [.lst [.int a, .int b]]
  generalize G HasC.c (41) = cl at *
  unfold lS8
  rw [mIfS_false (mB_eq (b := false) (M1 := [.lst [.int a, .int b]]) ?_)]
  · rfl
  refine mOr_two (M1 := [.lst [.int a, .int b]]) ?_ ?_
  · refine mOp_eq (x := cD 1 []) (y := cD 1 []) (M1 := [.lst [.int a, .int b]]) ?_ rfl q1
    exact g1
  · refine mOp_eq (x := cD 2 []) (y := cD 2 []) (M1 := [.lst [.int a, .int b]]) ?_ rfl q2
    exact g2
theorem l_9 (e : En) (a b : Int) : lS9 (G HasC.c (41)) e [.lst [.int a, .int b]] = some (.nx e, [.lst [.int a, .int b]]) := by
  have g1 := g_row r3 r_ok.2.2.1 a b
  have g2 := g_row r4 r_ok.2.2.2.1 a b
  have q1 := rgd_cD (n := 2) (ts := []) (by decide) [.lst [.int a, .int b]]
  have q2 := rgd_cD (n := 3) (ts := [(0, 2)]) (by decide) [.lst [.int a, .int b]]
  generalize G HasC.c (41) = cl at *
  unfold lS9
  rw [mIfS_false (mB_eq (b := false) (M1 := [.lst [.int a, .int b]]) ?_)]
  · rfl
  refine mOr_two (M1 := [.lst [.int a, .int b]]) ?_ ?_
  · refine mOp_eq (x := cD 2 []) (y := cD 2 []) (M1 := [.lst [.int a, .int b]]) ?_ rfl q1
    exact g1
  · refine mOp_eq (x := cD 3 [(0, 2)]) (y := cD 3 [(0, 2)]) (M1 := [.lst [.int a, .int b]]) ?_ rfl q2
    exact g2
theorem l_10 (e : En) (a b : Int) : lS10 (G HasC.c (41)) e [.lst [.int a, .int b]] = some (.rt (.bl true), [.lst [.int a, .int b]]) := by
  have g1 := g_row r5 r_ok.2.2.2.2 a b
  have q1 : oEq [.lst [.int a, .int b]] (cD 4 [(0, 1), (0, 2), (1, 3), (2, 3)]) (cD 4 [(0, 1), (0, 2), (1, 3), (2, 3)]) = some (.bl true) := oEq_self (n := 3) (good_cD (by decide)) (by decide)
  generalize G HasC.c (41) = cl at *
  have f : mOp oEq (mCall (cl .p_done) (mCons (mC (.int 1)) (mCons (mTup (mCons (mC (.int 4)) (mCons (mTup (mCons (mTup (mCons (mC (.int 0)) (mCons (mC (.int 1)) mNil))) (mCons (mTup (mCons (mC (.int 0)) (mCons (mC (.int 2)) mNil))) mNil))) mNil))) (mCons (mTup (mCons (mTup (mCons (mC (.str "pairs")) (mCons (mC (.int 0)) (mCons (mTup (mCons (mC (.int 0)) (mCons (mC (.int 1)) (mCons (mC (.int 0)) (mCons (mC (.int 0)) (mCons (mC (.int 0)) (mCons (mC (.int 0)) mNil))))))) mNil)))) mNil)) mNil)))) (mTup (mCons (mC (.int 4)) (mCons (mTup (mCons (mTup (mCons (mC (.int 0)) (mCons (mC (.int 1)) mNil))) (mCons (mTup (mCons (mC (.int 0)) (mCons (mC (.int 2)) mNil))) (mCons (mTup (mCons (mC (.int 1)) (mCons (mC (.int 3)) mNil))) (mCons (mTup (mCons (mC (.int 2)) (mCons (mC (.int 3)) mNil))) mNil))))) mNil))) e [.lst [.int a, .int b]] = some (.bl true, [.lst [.int a, .int b]]) := by
    refine mOp_eq (x := cD 4 [(0, 1), (0, 2), (1, 3), (2, 3)]) (y := cD 4 [(0, 1), (0, 2), (1, 3), (2, 3)]) (M1 := [.lst [.int a, .int b]]) ?_ rfl q1
    exact g1
  unfold lS10 mRet
  rw [f]
theorem law_tr : ∀ (ns : List Int) (d : D), ns.length ≤ 63 → (d = .fz (ns.map D.int) ∨ d = .lst (ns.map D.int)) → ∃ M', gLaw HasC.c 41 [d] [] = some (.bl true, M') := by
  intro ns d hl hd
  obtain ⟨a, b, hc, ha, hb, hb2⟩ := g_lcup hl hd
  obtain ⟨f2, f3, f4, f5, M1, q1, c1⟩ := l_turns d (rangeD 0 12) none none none none none none none none (M := [.lst [.int a, .int b]]) ⟨a, b, rfl, ha, hb, hb2⟩
  obtain ⟨a1, b1, rfl, _, _, _⟩ := c1
  refine ⟨[], ?_⟩
  show mFun 10 (B_Law (G HasC.c (41))) [d] [] = _
  have st : startD 10 [d] = [some d, none, none, none, none, none, none, none, none, none] := rfl
  have fa : mCons (mVar 0) mNil [some d, none, none, none, none, none, none, none, none, none] ([] : MM) = some ([d], []) := rfl
  have sl : mForR rng1 (mCons (mC (.int 12)) mNil) (tgName 2) (lT (G HasC.c (41))) (lE d none none none none none none none none) [.lst [.int a, .int b]] = some (.nx (lE d f2 f3 f4 f5 none none none none), [.lst [.int a1, .int b1]]) := by
    rw [mForR_eq (rfl : mCons (mC (.int 12)) mNil (lE d none none none none none none none none) [.lst [.int a, .int b]] = some ([.int 12], [.lst [.int a, .int b]])) (rng1_n 12 (by decide))]
    exact q1
  have pl : ([D.int a, .int b].all plainD) = true := rfl
  unfold mFun
  rw [st, law_eq]
  unfold mMu
  rw [fa]
  simp only []
  rw [hc]
  simp only []
  rw [if_pos pl]
  have se : [some d, none, none, none, none, none, none, none, none, none].set 1 (some (D.mu 0)) = lE d none none none none none none none none := rfl
  rw [se, mSeq_nx sl, mSeq_nx (l_0 ..), mSeq_nx (l_1 ..), mSeq_nx (l_2 ..), mSeq_nx (l_3 ..), mSeq_nx (l_4 ..), mSeq_nx (l_5 ..), mSeq_nx (l_6 ..), mSeq_nx (l_7 ..), mSeq_nx (l_8 ..), mSeq_nx (l_9 ..), l_10]
  rfl
omit [HasC] in
theorem law_true (cB : Addr) : ∀ (ns : List Int) (d : D), ns.length ≤ 63 → (d = .fz (ns.map D.int) ∨ d = .lst (ns.map D.int)) → ∃ M', gLaw cB 41 [d] [] = some (.bl true, M') := by
  letI : HasC := ⟨cB⟩
  exact law_tr
end MT

namespace MT
open PySem PySem.Spec PyProof.Rows L2 NL
theorem sp_end (cB : Addr) {K : PySem.W.Frag} {kts : List Addr} (H : Hp) (a : Addr) (ns : List Int) (hl : ns.length ≤ 63) (hT : ∀ k ∈ kts, H k = some (.tbl #[])) (hS : SqL K H a (ns.map V.int)) : spM kts K 1 (gLaw cB 41) [.ref a] H (fun v _ => v = .bl true) fun _ _ _ => False := by
  have fin : ∀ d : D, RV K H [] [] (.ref a) d → (d = .fz (ns.map D.int) ∨ d = .lst (ns.map D.int)) → spM kts K 1 (gLaw cB 41) [.ref a] H (fun v _ => v = .bl true) fun _ _ _ => False := fun d rv hd => by
    obtain ⟨M', e⟩ := law_true cB ns d hl hd
    refine ⟨[], [], [], [d], .bl true, M', ⟨rfl, by simp, fun n a ds h1 _ => by simp at h1, fun _ h => (by cases h), fun k hk => ⟨#[], hT k hk, True.intro⟩⟩, .cons rv .nil, rfl, e, fun H' v _ _ rv => ?_⟩
    cases rv
    rfl
  rcases hS with (h | ⟨o, h⟩) | h
  · exact fin _ (.lst h (by simp) (by simp) (RVs.of_ints ns)) (.inr rfl)
  · exact fin _ (.fz (.inl ⟨o, h⟩) (RVs.of_ints ns)) (.inl rfl)
  · exact fin _ (.fz (.inr h) (RVs.of_ints ns)) (.inl rfl)
theorem all_mk {l : PySem.W.OpenLaw} {w : World} {K : PySem.W.Frag} {h : Heap} {mg : Str → Option Value} {fa : Addr} (X : K.In h) (G : h.Ns mainGlobals mg) (hfa : mg "law" = some (.ref fa))
    {cB : Addr}
    {f0 : Addr} {od0 an0 : Option Addr} {sl0 : Array (Option Value)} {oc0 kV0 dc0 pm0 cd0 ct0 : Value}
    {f1 : Addr} {od1 an1 : Option Addr} {sl1 : Array (Option Value)} {oc1 kV1 dc1 pm1 cd1 ct1 : Value}
    {f2 : Addr} {od2 an2 : Option Addr} {sl2 : Array (Option Value)} {oc2 kV2 dc2 pm2 cd2 ct2 : Value}
    {f3 : Addr} {od3 an3 : Option Addr} {sl3 : Array (Option Value)} {oc3 kV3 dc3 pm3 cd3 ct3 : Value}
    {f4 : Addr} {od4 an4 : Option Addr} {sl4 : Array (Option Value)} {oc4 kV4 dc4 pm4 cd4 ct4 : Value}
    {f5 : Addr} {od5 an5 : Option Addr} {sl5 : Array (Option Value)} {oc5 kV5 dc5 pm5 cd5 ct5 : Value}
    {f6 : Addr} {od6 an6 : Option Addr} {sl6 : Array (Option Value)} {oc6 kV6 dc6 pm6 ct6 : Value} {cd6 : Addr}
    {f7 : Addr} {od7 an7 : Option Addr} {sl7 : Array (Option Value)} {oc7 kV7 dc7 pm7 cd7 ct7 : Value}
    {f8 : Addr} {od8 an8 : Option Addr} {sl8 : Array (Option Value)} {oc8 kV8 dc8 pm8 cd8 ct8 : Value}
    {f9 : Addr} {od9 an9 : Option Addr} {sl9 : Array (Option Value)} {oc9 kV9 dc9 pm9 cd9 ct9 : Value}
    {f10 : Addr} {od10 an10 : Option Addr} {sl10 : Array (Option Value)} {oc10 kV10 dc10 pm10 cd10 ct10 : Value}
    {f11 : Addr} {od11 an11 : Option Addr} {sl11 : Array (Option Value)} {oc11 kV11 dc11 pm11 cd11 ct11 : Value}
    {f12 : Addr} {od12 an12 : Option Addr} {sl12 : Array (Option Value)} {oc12 kV12 dc12 pm12 cd12 ct12 : Value}
    {f13 : Addr} {od13 an13 : Option Addr} {sl13 : Array (Option Value)} {oc13 kV13 dc13 pm13 cd13 ct13 : Value}
    {f14 : Addr} {od14 an14 : Option Addr} {sl14 : Array (Option Value)} {oc14 kV14 dc14 pm14 cd14 ct14 : Value}
    {f15 : Addr} {od15 an15 : Option Addr} {sl15 : Array (Option Value)} {oc15 kV15 dc15 pm15 cd15 ct15 : Value}
    {f16 : Addr} {od16 an16 : Option Addr} {sl16 : Array (Option Value)} {oc16 kV16 dc16 pm16 cd16 ct16 : Value}
    {f17 : Addr} {od17 an17 : Option Addr} {sl17 : Array (Option Value)} {oc17 kV17 dc17 pm17 cd17 ct17 : Value}
    {f18 : Addr} {od18 an18 : Option Addr} {sl18 : Array (Option Value)} {oc18 kV18 dc18 pm18 cd18 ct18 : Value}
    {f19 : Addr} {od19 an19 : Option Addr} {sl19 : Array (Option Value)} {oc19 kV19 dc19 pm19 cd19 ct19 : Value}
    {f20 : Addr} {od20 an20 : Option Addr} {sl20 : Array (Option Value)} {oc20 kV20 dc20 pm20 cd20 ct20 : Value}
    {f21 : Addr} {od21 an21 : Option Addr} {sl21 : Array (Option Value)} {oc21 kV21 dc21 pm21 cd21 ct21 : Value}
    {f22 : Addr} {od22 an22 : Option Addr} {sl22 : Array (Option Value)} {oc22 kV22 dc22 pm22 cd22 ct22 : Value}
    {f23 : Addr} {od23 an23 : Option Addr} {sl23 : Array (Option Value)} {oc23 kV23 dc23 pm23 cd23 ct23 : Value}
    {f24 : Addr} {od24 an24 : Option Addr} {sl24 : Array (Option Value)} {oc24 kV24 dc24 pm24 cd24 ct24 : Value}
    {f25 : Addr} {od25 an25 : Option Addr} {sl25 : Array (Option Value)} {oc25 kV25 dc25 pm25 cd25 ct25 : Value}
    {f26 : Addr} {od26 an26 : Option Addr} {sl26 : Array (Option Value)} {oc26 kV26 dc26 pm26 cd26 ct26 : Value}
    {f27 : Addr} {od27 an27 : Option Addr} {sl27 : Array (Option Value)} {oc27 kV27 dc27 pm27 cd27 ct27 : Value}
    {f28 : Addr} {od28 an28 : Option Addr} {sl28 : Array (Option Value)} {oc28 kV28 dc28 pm28 cd28 ct28 : Value}
    {f29 : Addr} {od29 an29 : Option Addr} {sl29 : Array (Option Value)} {oc29 kV29 dc29 pm29 cd29 ct29 : Value}
    {f30 : Addr} {od30 an30 : Option Addr} {sl30 : Array (Option Value)} {oc30 kV30 dc30 pm30 cd30 ct30 : Value}
    {f31 : Addr} {od31 an31 : Option Addr} {sl31 : Array (Option Value)} {oc31 kV31 dc31 pm31 cd31 ct31 : Value}
    {f32 : Addr} {od32 an32 : Option Addr} {sl32 : Array (Option Value)} {oc32 kV32 dc32 pm32 cd32 ct32 : Value}
    {f33 : Addr} {od33 an33 : Option Addr} {sl33 : Array (Option Value)} {oc33 kV33 dc33 pm33 cd33 ct33 : Value}
    {f34 : Addr} {od34 an34 : Option Addr} {sl34 : Array (Option Value)} {oc34 kV34 dc34 pm34 cd34 ct34 : Value}
    {f35 : Addr} {od35 an35 : Option Addr} {sl35 : Array (Option Value)} {oc35 kV35 dc35 pm35 cd35 ct35 : Value}
    {f36 : Addr} {od36 an36 : Option Addr} {sl36 : Array (Option Value)} {oc36 kV36 dc36 pm36 cd36 ct36 : Value}
    {f37 : Addr} {od37 an37 : Option Addr} {sl37 : Array (Option Value)} {oc37 kV37 dc37 pm37 cd37 ct37 : Value}
    {f38 : Addr} {od38 an38 : Option Addr} {sl38 : Array (Option Value)} {oc38 kV38 dc38 pm38 cd38 ct38 : Value}
    {f39 : Addr} {od39 an39 : Option Addr} {sl39 : Array (Option Value)} {oc39 kV39 dc39 pm39 cd39 ct39 : Value}
    {f40 : Addr} {od40 an40 : Option Addr} {sl40 : Array (Option Value)} {oc40 kV40 dc40 pm40 cd40 ct40 : Value}
    {f41 : Addr} {od41 an41 : Option Addr} {sl41 : Array (Option Value)} {oc41 kV41 dc41 pm41 cd41 ct41 : Value}
    {f42 : Addr} {od42 an42 : Option Addr} {sl42 : Array (Option Value)} {oc42 kV42 dc42 pm42 cd42 ct42 : Value}
    {f43 : Addr} {od43 an43 : Option Addr} {sl43 : Array (Option Value)} {oc43 kV43 dc43 pm43 cd43 ct43 : Value}
    {t_MOST_DEPTH : Tok}
    {t_MOST_ITEMS : Tok}
    {t_MOST_NAMED : Tok}
    {t_MOST_PEOPLE : Tok}
    {a_WORDS : Addr} {od_WORDS : Option Addr} {n_WORDS : Nat} {sl_WORDS : Array (Option Value)} {t0_WORDS : Tok} {t1_WORDS : Tok} {t2_WORDS : Tok}
    {kt6 : Addr} (hT6 : h.get? kt6 = some { cls := .none, data := .fields #[] }) (nT6 : K.lookup kt6 = none) (hC6 : PySem.W.codeHdIn K cd6 kt6 = true)
    (aB : PySem.W.nsIn K mainGlobals "Bundle" = some (some (.ref cB))) (kB : PySem.W.keepIn K (.ref cB) = true) (mB : PySem.W.makesIn K cB = true) (pB : PySem.W.plainGet K cB Str.empty = true) (hB : PySem.W.hasDictIn K cB = true) (oB : PySem.W.plainOver K cB = true) (sB : PySem.W.findIn K (.ref cB) "__setattr__" = some (some (.builtin "object.__setattr__"))) (nB_people : PySem.W.findIn K (.ref cB) "people" = some none) (nB_full : PySem.W.findIn K (.ref cB) "full" = some none) (nB_ties : PySem.W.findIn K (.ref cB) "ties" = some none)
    (a0 : PySem.W.nsIn K mainGlobals "pairs_of" = some (some (.ref f0))) (l0 : K.lookup f0 = some ⟨oc0, od0, .func (PySem.W.fnOf "pairs_of" "pairs_of" (defArgs s_p_pairs_of) (defBody s_p_pairs_of) (defScope s_p_pairs_of) .none kV0 dc0 pm0 an0 cd0 ct0), sl0⟩) (c0 : PySem.W.codeIn K cd0 "pairs_of" = true) (k0 : PySem.W.keepIn K (.ref f0) = true)
    (a1 : PySem.W.nsIn K mainGlobals "pair_of" = some (some (.ref f1))) (l1 : K.lookup f1 = some ⟨oc1, od1, .func (PySem.W.fnOf "pair_of" "pair_of" (defArgs s_p_pair_of) (defBody s_p_pair_of) (defScope s_p_pair_of) .none kV1 dc1 pm1 an1 cd1 ct1), sl1⟩) (c1 : PySem.W.codeIn K cd1 "pair_of" = true) (k1 : PySem.W.keepIn K (.ref f1) = true)
    (a2 : PySem.W.findIn K (.ref cB) "__init__" = some (some (.ref f2))) (l2 : K.lookup f2 = some ⟨oc2, od2, .func (PySem.W.fnOf "__init__" "Bundle.__init__" (defArgs s_Bundle___init__) (defBody s_Bundle___init__) (defScope s_Bundle___init__) .none kV2 dc2 pm2 an2 cd2 ct2), sl2⟩) (c2 : PySem.W.codeIn K cd2 "Bundle.__init__" = true) (k2 : PySem.W.keepIn K (.ref f2) = true) (i2 : PySem.W.isFn K (.ref f2) = true)
    (a3 : PySem.W.findIn K (.ref cB) "knowing" = some (some (.ref f3))) (l3 : K.lookup f3 = some ⟨oc3, od3, .func (PySem.W.fnOf "knowing" "Bundle.knowing" (defArgs s_Bundle_knowing) (defBody s_Bundle_knowing) (defScope s_Bundle_knowing) .none kV3 dc3 pm3 an3 cd3 ct3), sl3⟩) (c3 : PySem.W.codeIn K cd3 "Bundle.knowing" = true) (k3 : PySem.W.keepIn K (.ref f3) = true) (i3 : PySem.W.isFn K (.ref f3) = true)
    (a4 : PySem.W.findIn K (.ref cB) "with_ties" = some (some (.ref f4))) (l4 : K.lookup f4 = some ⟨oc4, od4, .func (PySem.W.fnOf "with_ties" "Bundle.with_ties" (defArgs s_Bundle_with_ties) (defBody s_Bundle_with_ties) (defScope s_Bundle_with_ties) .none kV4 dc4 pm4 an4 cd4 ct4), sl4⟩) (c4 : PySem.W.codeIn K cd4 "Bundle.with_ties" = true) (k4 : PySem.W.keepIn K (.ref f4) = true) (i4 : PySem.W.isFn K (.ref f4) = true)
    (a5 : PySem.W.nsIn K mainGlobals "bundle_of" = some (some (.ref f5))) (l5 : K.lookup f5 = some ⟨oc5, od5, .func (PySem.W.fnOf "bundle_of" "bundle_of" (defArgs s_p_bundle_of) (defBody s_p_bundle_of) (defScope s_p_bundle_of) .none kV5 dc5 pm5 an5 cd5 ct5), sl5⟩) (c5 : PySem.W.codeIn K cd5 "bundle_of" = true) (k5 : PySem.W.keepIn K (.ref f5) = true)
    (a6 : PySem.W.nsIn K mainGlobals "company_in" = some (some (.ref f6))) (l6 : K.lookup f6 = some ⟨oc6, od6, .func (PySem.W.fnOf "company_in" "company_in" (defArgs s_p_company_in) (defBody s_p_company_in) (defScope s_p_company_in) .none kV6 dc6 pm6 an6 (.ref cd6) ct6), sl6⟩) (c6 : PySem.W.codeIn K (.ref cd6) "company_in" = true) (k6 : PySem.W.keepIn K (.ref f6) = true)
    (a7 : PySem.W.nsIn K mainGlobals "answered" = some (some (.ref f7))) (l7 : K.lookup f7 = some ⟨oc7, od7, .func (PySem.W.fnOf "answered" "answered" (defArgs s_p_answered) (defBody s_p_answered) (defScope s_p_answered) .none kV7 dc7 pm7 an7 cd7 ct7), sl7⟩) (c7 : PySem.W.codeIn K cd7 "answered" = true) (k7 : PySem.W.keepIn K (.ref f7) = true)
    (a8 : PySem.W.nsIn K mainGlobals "pairs_done" = some (some (.ref f8))) (l8 : K.lookup f8 = some ⟨oc8, od8, .func (PySem.W.fnOf "pairs_done" "pairs_done" (defArgs s_p_pairs_done) (defBody s_p_pairs_done) (defScope s_p_pairs_done) .none kV8 dc8 pm8 an8 cd8 ct8), sl8⟩) (c8 : PySem.W.codeIn K cd8 "pairs_done" = true) (k8 : PySem.W.keepIn K (.ref f8) = true)
    (a9 : PySem.W.nsIn K mainGlobals "takes_done" = some (some (.ref f9))) (l9 : K.lookup f9 = some ⟨oc9, od9, .func (PySem.W.fnOf "takes_done" "takes_done" (defArgs s_p_takes_done) (defBody s_p_takes_done) (defScope s_p_takes_done) .none kV9 dc9 pm9 an9 cd9 ct9), sl9⟩) (c9 : PySem.W.codeIn K cd9 "takes_done" = true) (k9 : PySem.W.keepIn K (.ref f9) = true)
    (a10 : PySem.W.nsIn K mainGlobals "tie_done" = some (some (.ref f10))) (l10 : K.lookup f10 = some ⟨oc10, od10, .func (PySem.W.fnOf "tie_done" "tie_done" (defArgs s_p_tie_done) (defBody s_p_tie_done) (defScope s_p_tie_done) .none kV10 dc10 pm10 an10 cd10 ct10), sl10⟩) (c10 : PySem.W.codeIn K cd10 "tie_done" = true) (k10 : PySem.W.keepIn K (.ref f10) = true)
    (a11 : PySem.W.nsIn K mainGlobals "deed_done" = some (some (.ref f11))) (l11 : K.lookup f11 = some ⟨oc11, od11, .func (PySem.W.fnOf "deed_done" "deed_done" (defArgs s_p_deed_done) (defBody s_p_deed_done) (defScope s_p_deed_done) .none kV11 dc11 pm11 an11 cd11 ct11), sl11⟩) (c11 : PySem.W.codeIn K cd11 "deed_done" = true) (k11 : PySem.W.keepIn K (.ref f11) = true)
    (a12 : PySem.W.nsIn K mainGlobals "choice_done" = some (some (.ref f12))) (l12 : K.lookup f12 = some ⟨oc12, od12, .func (PySem.W.fnOf "choice_done" "choice_done" (defArgs s_p_choice_done) (defBody s_p_choice_done) (defScope s_p_choice_done) .none kV12 dc12 pm12 an12 cd12 ct12), sl12⟩) (c12 : PySem.W.codeIn K cd12 "choice_done" = true) (k12 : PySem.W.keepIn K (.ref f12) = true)
    (a13 : PySem.W.nsIn K mainGlobals "items_done" = some (some (.ref f13))) (l13 : K.lookup f13 = some ⟨oc13, od13, .func (PySem.W.fnOf "items_done" "items_done" (defArgs s_p_items_done) (defBody s_p_items_done) (defScope s_p_items_done) .none kV13 dc13 pm13 an13 cd13 ct13), sl13⟩) (c13 : PySem.W.codeIn K cd13 "items_done" = true) (k13 : PySem.W.keepIn K (.ref f13) = true)
    (a14 : PySem.W.nsIn K mainGlobals "company_done" = some (some (.ref f14))) (l14 : K.lookup f14 = some ⟨oc14, od14, .func (PySem.W.fnOf "company_done" "company_done" (defArgs s_p_company_done) (defBody s_p_company_done) (defScope s_p_company_done) .none kV14 dc14 pm14 an14 cd14 ct14), sl14⟩) (c14 : PySem.W.codeIn K cd14 "company_done" = true) (k14 : PySem.W.keepIn K (.ref f14) = true)
    (a15 : PySem.W.nsIn K mainGlobals "is_integer" = some (some (.ref f15))) (l15 : K.lookup f15 = some ⟨oc15, od15, .func (PySem.W.fnOf "is_integer" "is_integer" (defArgs s_p_is_integer) (defBody s_p_is_integer) (defScope s_p_is_integer) .none kV15 dc15 pm15 an15 cd15 ct15), sl15⟩) (c15 : PySem.W.codeIn K cd15 "is_integer" = true) (k15 : PySem.W.keepIn K (.ref f15) = true)
    (a16 : PySem.W.nsIn K mainGlobals "is_between" = some (some (.ref f16))) (l16 : K.lookup f16 = some ⟨oc16, od16, .func (PySem.W.fnOf "is_between" "is_between" (defArgs s_p_is_between) (defBody s_p_is_between) (defScope s_p_is_between) .none kV16 dc16 pm16 an16 cd16 ct16), sl16⟩) (c16 : PySem.W.codeIn K cd16 "is_between" = true) (k16 : PySem.W.keepIn K (.ref f16) = true)
    (a17 : PySem.W.nsIn K mainGlobals "is_tuple_of" = some (some (.ref f17))) (l17 : K.lookup f17 = some ⟨oc17, od17, .func (PySem.W.fnOf "is_tuple_of" "is_tuple_of" (defArgs s_p_is_tuple_of) (defBody s_p_is_tuple_of) (defScope s_p_is_tuple_of) .none kV17 dc17 pm17 an17 cd17 ct17), sl17⟩) (c17 : PySem.W.codeIn K cd17 "is_tuple_of" = true) (k17 : PySem.W.keepIn K (.ref f17) = true)
    (a18 : PySem.W.nsIn K mainGlobals "is_ascending" = some (some (.ref f18))) (l18 : K.lookup f18 = some ⟨oc18, od18, .func (PySem.W.fnOf "is_ascending" "is_ascending" (defArgs s_p_is_ascending) (defBody s_p_is_ascending) (defScope s_p_is_ascending) .none kV18 dc18 pm18 an18 cd18 ct18), sl18⟩) (c18 : PySem.W.codeIn K cd18 "is_ascending" = true) (k18 : PySem.W.keepIn K (.ref f18) = true)
    (a19 : PySem.W.nsIn K mainGlobals "is_pair_of" = some (some (.ref f19))) (l19 : K.lookup f19 = some ⟨oc19, od19, .func (PySem.W.fnOf "is_pair_of" "is_pair_of" (defArgs s_p_is_pair_of) (defBody s_p_is_pair_of) (defScope s_p_is_pair_of) .none kV19 dc19 pm19 an19 cd19 ct19), sl19⟩) (c19 : PySem.W.codeIn K cd19 "is_pair_of" = true) (k19 : PySem.W.keepIn K (.ref f19) = true)
    (a20 : PySem.W.nsIn K mainGlobals "are_ties_of" = some (some (.ref f20))) (l20 : K.lookup f20 = some ⟨oc20, od20, .func (PySem.W.fnOf "are_ties_of" "are_ties_of" (defArgs s_p_are_ties_of) (defBody s_p_are_ties_of) (defScope s_p_are_ties_of) .none kV20 dc20 pm20 an20 cd20 ct20), sl20⟩) (c20 : PySem.W.codeIn K cd20 "are_ties_of" = true) (k20 : PySem.W.keepIn K (.ref f20) = true)
    (a21 : PySem.W.nsIn K mainGlobals "is_company_of" = some (some (.ref f21))) (l21 : K.lookup f21 = some ⟨oc21, od21, .func (PySem.W.fnOf "is_company_of" "is_company_of" (defArgs s_p_is_company_of) (defBody s_p_is_company_of) (defScope s_p_is_company_of) .none kV21 dc21 pm21 an21 cd21 ct21), sl21⟩) (c21 : PySem.W.codeIn K cd21 "is_company_of" = true) (k21 : PySem.W.keepIn K (.ref f21) = true)
    (a22 : PySem.W.nsIn K mainGlobals "are_answers" = some (some (.ref f22))) (l22 : K.lookup f22 = some ⟨oc22, od22, .func (PySem.W.fnOf "are_answers" "are_answers" (defArgs s_p_are_answers) (defBody s_p_are_answers) (defScope s_p_are_answers) .none kV22 dc22 pm22 an22 cd22 ct22), sl22⟩) (c22 : PySem.W.codeIn K cd22 "are_answers" = true) (k22 : PySem.W.keepIn K (.ref f22) = true)
    (a23 : PySem.W.nsIn K mainGlobals "are_two_named" = some (some (.ref f23))) (l23 : K.lookup f23 = some ⟨oc23, od23, .func (PySem.W.fnOf "are_two_named" "are_two_named" (defArgs s_p_are_two_named) (defBody s_p_are_two_named) (defScope s_p_are_two_named) .none kV23 dc23 pm23 an23 cd23 ct23), sl23⟩) (c23 : PySem.W.codeIn K cd23 "are_two_named" = true) (k23 : PySem.W.keepIn K (.ref f23) = true)
    (a24 : PySem.W.nsIn K mainGlobals "is_deed_of" = some (some (.ref f24))) (l24 : K.lookup f24 = some ⟨oc24, od24, .func (PySem.W.fnOf "is_deed_of" "is_deed_of" (defArgs s_p_is_deed_of) (defBody s_p_is_deed_of) (defScope s_p_is_deed_of) .none kV24 dc24 pm24 an24 cd24 ct24), sl24⟩) (c24 : PySem.W.codeIn K cd24 "is_deed_of" = true) (k24 : PySem.W.keepIn K (.ref f24) = true)
    (a25 : PySem.W.nsIn K mainGlobals "is_asking" = some (some (.ref f25))) (l25 : K.lookup f25 = some ⟨oc25, od25, .func (PySem.W.fnOf "is_asking" "is_asking" (defArgs s_p_is_asking) (defBody s_p_is_asking) (defScope s_p_is_asking) .none kV25 dc25 pm25 an25 cd25 ct25), sl25⟩) (c25 : PySem.W.codeIn K cd25 "is_asking" = true) (k25 : PySem.W.keepIn K (.ref f25) = true)
    (a26 : PySem.W.nsIn K mainGlobals "left_behind" = some (some (.ref f26))) (l26 : K.lookup f26 = some ⟨oc26, od26, .func (PySem.W.fnOf "left_behind" "left_behind" (defArgs s_p_left_behind) (defBody s_p_left_behind) (defScope s_p_left_behind) .none kV26 dc26 pm26 an26 cd26 ct26), sl26⟩) (c26 : PySem.W.codeIn K cd26 "left_behind" = true) (k26 : PySem.W.keepIn K (.ref f26) = true)
    (a27 : PySem.W.nsIn K mainGlobals "left_behind_item" = some (some (.ref f27))) (l27 : K.lookup f27 = some ⟨oc27, od27, .func (PySem.W.fnOf "left_behind_item" "left_behind_item" (defArgs s_p_left_behind_item) (defBody s_p_left_behind_item) (defScope s_p_left_behind_item) .none kV27 dc27 pm27 an27 cd27 ct27), sl27⟩) (c27 : PySem.W.codeIn K cd27 "left_behind_item" = true) (k27 : PySem.W.keepIn K (.ref f27) = true)
    (a28 : PySem.W.nsIn K mainGlobals "is_script_of" = some (some (.ref f28))) (l28 : K.lookup f28 = some ⟨oc28, od28, .func (PySem.W.fnOf "is_script_of" "is_script_of" (defArgs s_p_is_script_of) (defBody s_p_is_script_of) (defScope s_p_is_script_of) .none kV28 dc28 pm28 an28 cd28 ct28), sl28⟩) (c28 : PySem.W.codeIn K cd28 "is_script_of" = true) (k28 : PySem.W.keepIn K (.ref f28) = true)
    (a29 : PySem.W.nsIn K mainGlobals "check_named" = some (some (.ref f29))) (l29 : K.lookup f29 = some ⟨oc29, od29, .func (PySem.W.fnOf "check_named" "check_named" (defArgs s_p_check_named) (defBody s_p_check_named) (defScope s_p_check_named) .none kV29 dc29 pm29 an29 cd29 ct29), sl29⟩) (c29 : PySem.W.codeIn K cd29 "check_named" = true) (k29 : PySem.W.keepIn K (.ref f29) = true)
    (a30 : PySem.W.nsIn K mainGlobals "check_company" = some (some (.ref f30))) (l30 : K.lookup f30 = some ⟨oc30, od30, .func (PySem.W.fnOf "check_company" "check_company" (defArgs s_p_check_company) (defBody s_p_check_company) (defScope s_p_check_company) .none kV30 dc30 pm30 an30 cd30 ct30), sl30⟩) (c30 : PySem.W.codeIn K cd30 "check_company" = true) (k30 : PySem.W.keepIn K (.ref f30) = true)
    (a31 : PySem.W.nsIn K mainGlobals "check_script" = some (some (.ref f31))) (l31 : K.lookup f31 = some ⟨oc31, od31, .func (PySem.W.fnOf "check_script" "check_script" (defArgs s_p_check_script) (defBody s_p_check_script) (defScope s_p_check_script) .none kV31 dc31 pm31 an31 cd31 ct31), sl31⟩) (c31 : PySem.W.codeIn K cd31 "check_script" = true) (k31 : PySem.W.keepIn K (.ref f31) = true)
    (a32 : PySem.W.nsIn K mainGlobals "done" = some (some (.ref f32))) (l32 : K.lookup f32 = some ⟨oc32, od32, .func (PySem.W.fnOf "done" "done" (defArgs s_p_done) (defBody s_p_done) (defScope s_p_done) .none kV32 dc32 pm32 an32 cd32 ct32), sl32⟩) (c32 : PySem.W.codeIn K cd32 "done" = true) (k32 : PySem.W.keepIn K (.ref f32) = true)
    (a33 : PySem.W.nsIn K mainGlobals "_law_cup" = some (some (.ref f33))) (l33 : K.lookup f33 = some ⟨oc33, od33, .func (PySem.W.fnOf "_law_cup" "_law_cup" (defArgs s_Lcup) (defBody s_Lcup) (defScope s_Lcup) .none kV33 dc33 pm33 an33 cd33 ct33), sl33⟩) (c33 : PySem.W.codeIn K cd33 "_law_cup" = true) (k33 : PySem.W.keepIn K (.ref f33) = true)
    (a34 : PySem.W.nsIn K mainGlobals "_law_roll" = some (some (.ref f34))) (l34 : K.lookup f34 = some ⟨oc34, od34, .func (PySem.W.fnOf "_law_roll" "_law_roll" (defArgs s_Lroll) (defBody s_Lroll) (defScope s_Lroll) .none kV34 dc34 pm34 an34 cd34 ct34), sl34⟩) (c34 : PySem.W.codeIn K cd34 "_law_roll" = true) (k34 : PySem.W.keepIn K (.ref f34) = true)
    (a35 : PySem.W.nsIn K mainGlobals "_law_some" = some (some (.ref f35))) (l35 : K.lookup f35 = some ⟨oc35, od35, .func (PySem.W.fnOf "_law_some" "_law_some" (defArgs s_Lsome) (defBody s_Lsome) (defScope s_Lsome) .none kV35 dc35 pm35 an35 cd35 ct35), sl35⟩) (c35 : PySem.W.codeIn K cd35 "_law_some" = true) (k35 : PySem.W.keepIn K (.ref f35) = true)
    (a36 : PySem.W.nsIn K mainGlobals "_law_pairs" = some (some (.ref f36))) (l36 : K.lookup f36 = some ⟨oc36, od36, .func (PySem.W.fnOf "_law_pairs" "_law_pairs" (defArgs s_Lpairs) (defBody s_Lpairs) (defScope s_Lpairs) .none kV36 dc36 pm36 an36 cd36 ct36), sl36⟩) (c36 : PySem.W.codeIn K cd36 "_law_pairs" = true) (k36 : PySem.W.keepIn K (.ref f36) = true)
    (a37 : PySem.W.nsIn K mainGlobals "_law_company" = some (some (.ref f37))) (l37 : K.lookup f37 = some ⟨oc37, od37, .func (PySem.W.fnOf "_law_company" "_law_company" (defArgs s_Lcompany) (defBody s_Lcompany) (defScope s_Lcompany) .none kV37 dc37 pm37 an37 cd37 ct37), sl37⟩) (c37 : PySem.W.codeIn K cd37 "_law_company" = true) (k37 : PySem.W.keepIn K (.ref f37) = true)
    (a38 : PySem.W.nsIn K mainGlobals "_law_answers" = some (some (.ref f38))) (l38 : K.lookup f38 = some ⟨oc38, od38, .func (PySem.W.fnOf "_law_answers" "_law_answers" (defArgs s_Lanswers) (defBody s_Lanswers) (defScope s_Lanswers) .none kV38 dc38 pm38 an38 cd38 ct38), sl38⟩) (c38 : PySem.W.codeIn K cd38 "_law_answers" = true) (k38 : PySem.W.keepIn K (.ref f38) = true)
    (a39 : PySem.W.nsIn K mainGlobals "_law_deed" = some (some (.ref f39))) (l39 : K.lookup f39 = some ⟨oc39, od39, .func (PySem.W.fnOf "_law_deed" "_law_deed" (defArgs s_Ldeed) (defBody s_Ldeed) (defScope s_Ldeed) .none kV39 dc39 pm39 an39 cd39 ct39), sl39⟩) (c39 : PySem.W.codeIn K cd39 "_law_deed" = true) (k39 : PySem.W.keepIn K (.ref f39) = true)
    (a40 : PySem.W.nsIn K mainGlobals "_law_two" = some (some (.ref f40))) (l40 : K.lookup f40 = some ⟨oc40, od40, .func (PySem.W.fnOf "_law_two" "_law_two" (defArgs s_Ltwo) (defBody s_Ltwo) (defScope s_Ltwo) .none kV40 dc40 pm40 an40 cd40 ct40), sl40⟩) (c40 : PySem.W.codeIn K cd40 "_law_two" = true) (k40 : PySem.W.keepIn K (.ref f40) = true)
    (a41 : PySem.W.nsIn K mainGlobals "_law_knows" = some (some (.ref f41))) (l41 : K.lookup f41 = some ⟨oc41, od41, .func (PySem.W.fnOf "_law_knows" "_law_knows" (defArgs s_Lknows) (defBody s_Lknows) (defScope s_Lknows) .none kV41 dc41 pm41 an41 cd41 ct41), sl41⟩) (c41 : PySem.W.codeIn K cd41 "_law_knows" = true) (k41 : PySem.W.keepIn K (.ref f41) = true)
    (a42 : PySem.W.nsIn K mainGlobals "_law_behind" = some (some (.ref f42))) (l42 : K.lookup f42 = some ⟨oc42, od42, .func (PySem.W.fnOf "_law_behind" "_law_behind" (defArgs s_Lbehind) (defBody s_Lbehind) (defScope s_Lbehind) .none kV42 dc42 pm42 an42 cd42 ct42), sl42⟩) (c42 : PySem.W.codeIn K cd42 "_law_behind" = true) (k42 : PySem.W.keepIn K (.ref f42) = true)
    (a43 : PySem.W.nsIn K mainGlobals "law" = some (some (.ref f43))) (l43 : K.lookup f43 = some ⟨oc43, od43, .func (PySem.W.fnOf "law" "law" (defArgs s_Law) (defBody s_Law) (defScope s_Law) .none kV43 dc43 pm43 an43 cd43 ct43), sl43⟩) (c43 : PySem.W.codeIn K cd43 "law" = true) (k43 : PySem.W.keepIn K (.ref f43) = true)
    (z_abs : PySem.W.nsIn K mainGlobals "abs" = some none)
    (z_all : PySem.W.nsIn K mainGlobals "all" = some none)
    (z_bool : PySem.W.nsIn K mainGlobals "bool" = some none)
    (z_enumerate : PySem.W.nsIn K mainGlobals "enumerate" = some none)
    (z_int : PySem.W.nsIn K mainGlobals "int" = some none)
    (z_isinstance : PySem.W.nsIn K mainGlobals "isinstance" = some none)
    (z_len : PySem.W.nsIn K mainGlobals "len" = some none)
    (z_list : PySem.W.nsIn K mainGlobals "list" = some none)
    (z_range : PySem.W.nsIn K mainGlobals "range" = some none)
    (z_tuple : PySem.W.nsIn K mainGlobals "tuple" = some none)
    (z_zip : PySem.W.nsIn K mainGlobals "zip" = some none)
    (m_MOST_DEPTH : PySem.W.nsIn K mainGlobals "MOST_DEPTH" = some (some (.int 4 t_MOST_DEPTH)))
    (m_MOST_ITEMS : PySem.W.nsIn K mainGlobals "MOST_ITEMS" = some (some (.int 30 t_MOST_ITEMS)))
    (m_MOST_NAMED : PySem.W.nsIn K mainGlobals "MOST_NAMED" = some (some (.int 3 t_MOST_NAMED)))
    (m_MOST_PEOPLE : PySem.W.nsIn K mainGlobals "MOST_PEOPLE" = some (some (.int 9 t_MOST_PEOPLE)))
    (m_WORDS : PySem.W.nsIn K mainGlobals "WORDS" = some (some (.ref a_WORDS)))
    (l_WORDS : K.lookup a_WORDS = some ⟨.type "tuple", od_WORDS, .seq #[.str "know" t0_WORDS, .str "part" t1_WORDS, .str "turn" t2_WORDS] n_WORDS, sl_WORDS⟩) :
    LamX.LawAtS l w K CX0 42 63 "_law_script" mg fa h := by
  have e := hfa.symm.trans (PySem.W.mg_of X G a43)
  cases e
  have F0 := fun_mk (st := s_p_pairs_of) l0 c0 k0
  have F1 := fun_mk (st := s_p_pair_of) l1 c1 k1
  have F2 := fun_mk (st := s_Bundle___init__) l2 c2 k2
  have F3 := fun_mk (st := s_Bundle_knowing) l3 c3 k3
  have F4 := fun_mk (st := s_Bundle_with_ties) l4 c4 k4
  have F5 := fun_mk (st := s_p_bundle_of) l5 c5 k5
  have F6 := fun_mk (st := s_p_company_in) l6 c6 k6
  have F7 := fun_mk (st := s_p_answered) l7 c7 k7
  have F8 := fun_mk (st := s_p_pairs_done) l8 c8 k8
  have F9 := fun_mk (st := s_p_takes_done) l9 c9 k9
  have F10 := fun_mk (st := s_p_tie_done) l10 c10 k10
  have F11 := fun_mk (st := s_p_deed_done) l11 c11 k11
  have F12 := fun_mk (st := s_p_choice_done) l12 c12 k12
  have F13 := fun_mk (st := s_p_items_done) l13 c13 k13
  have F14 := fun_mk (st := s_p_company_done) l14 c14 k14
  have F15 := fun_mk (st := s_p_is_integer) l15 c15 k15
  have F16 := fun_mk (st := s_p_is_between) l16 c16 k16
  have F17 := fun_mk (st := s_p_is_tuple_of) l17 c17 k17
  have F18 := fun_mk (st := s_p_is_ascending) l18 c18 k18
  have F19 := fun_mk (st := s_p_is_pair_of) l19 c19 k19
  have F20 := fun_mk (st := s_p_are_ties_of) l20 c20 k20
  have F21 := fun_mk (st := s_p_is_company_of) l21 c21 k21
  have F22 := fun_mk (st := s_p_are_answers) l22 c22 k22
  have F23 := fun_mk (st := s_p_are_two_named) l23 c23 k23
  have F24 := fun_mk (st := s_p_is_deed_of) l24 c24 k24
  have F25 := fun_mk (st := s_p_is_asking) l25 c25 k25
  have F26 := fun_mk (st := s_p_left_behind) l26 c26 k26
  have F27 := fun_mk (st := s_p_left_behind_item) l27 c27 k27
  have F28 := fun_mk (st := s_p_is_script_of) l28 c28 k28
  have F29 := fun_mk (st := s_p_check_named) l29 c29 k29
  have F30 := fun_mk (st := s_p_check_company) l30 c30 k30
  have F31 := fun_mk (st := s_p_check_script) l31 c31 k31
  have F32 := fun_mk (st := s_p_done) l32 c32 k32
  have F33 := fun_mk (st := s_Lcup) l33 c33 k33
  have F34 := fun_mk (st := s_Lroll) l34 c34 k34
  have F35 := fun_mk (st := s_Lsome) l35 c35 k35
  have F36 := fun_mk (st := s_Lpairs) l36 c36 k36
  have F37 := fun_mk (st := s_Lcompany) l37 c37 k37
  have F38 := fun_mk (st := s_Lanswers) l38 c38 k38
  have F39 := fun_mk (st := s_Ldeed) l39 c39 k39
  have F40 := fun_mk (st := s_Ltwo) l40 c40 k40
  have F41 := fun_mk (st := s_Lknows) l41 c41 k41
  have F42 := fun_mk (st := s_Lbehind) l42 c42 k42
  have F43 := fun_mk (st := s_Law) l43 c43 k43
  let T : Tx K mg := {
    a_p_pairs_of := f0,
    d_p_pairs_of := _,
    F_p_pairs_of := F0,
    g_p_pairs_of := PySem.W.mg_of X G a0,
    b_p_pairs_of := F0.binds (fun _ _ _ _ _ _ us hl => match us, hl with | [_], _ => rfl),
    a_p_pair_of := f1,
    d_p_pair_of := _,
    F_p_pair_of := F1,
    g_p_pair_of := PySem.W.mg_of X G a1,
    b_p_pair_of := F1.binds (fun _ _ _ _ _ _ us hl => match us, hl with | [_, _], _ => rfl),
    a_Bundle___init__ := f2,
    d_Bundle___init__ := _,
    F_Bundle___init__ := F2,
    a_Bundle := cB,
    m_Bundle := PySem.W.mg_of X G aB,
    cl_Bundle := ⟨pB, hB, oB, sB⟩,
    mk_Bundle := ⟨mB, a2, i2, kB⟩,
    na_people := nB_people,
    na_full := nB_full,
    na_ties := nB_ties,
    b_Bundle___init__ := F2.binds (fun _ _ _ _ _ _ us hl => match us, hl with | [_, _, _, _], _ => rfl),
    a_Bundle_knowing := f3,
    d_Bundle_knowing := _,
    F_Bundle_knowing := F3,
    me_knowing := ⟨a3, i3, k3⟩,
    b_Bundle_knowing := F3.binds (fun _ _ _ _ _ _ us hl => match us, hl with | [_, _, _], _ => rfl),
    a_Bundle_with_ties := f4,
    d_Bundle_with_ties := _,
    F_Bundle_with_ties := F4,
    me_with_ties := ⟨a4, i4, k4⟩,
    b_Bundle_with_ties := F4.binds (fun _ _ _ _ _ _ us hl => match us, hl with | [_, _], _ => rfl),
    a_p_bundle_of := f5,
    d_p_bundle_of := _,
    F_p_bundle_of := F5,
    g_p_bundle_of := PySem.W.mg_of X G a5,
    b_p_bundle_of := F5.binds (fun _ _ _ _ _ _ us hl => match us, hl with | [_], _ => rfl),
    a_p_company_in := f6,
    d_p_company_in := _,
    F_p_company_in := F6,
    g_p_company_in := PySem.W.mg_of X G a6,
    kc_p_company_in := cd6,
    kt_p_company_in := kt6,
    h_p_company_in := ⟨_, _, _, _, _, _, _, _, rfl, l6, c6⟩,
    b_p_company_in := F6.binds (fun _ _ _ _ _ _ us hl => match us, hl with | [_, _], _ => rfl),
    a_p_answered := f7,
    d_p_answered := _,
    F_p_answered := F7,
    g_p_answered := PySem.W.mg_of X G a7,
    b_p_answered := F7.binds (fun _ _ _ _ _ _ us hl => match us, hl with | [_, _, _], _ => rfl),
    a_p_pairs_done := f8,
    d_p_pairs_done := _,
    F_p_pairs_done := F8,
    g_p_pairs_done := PySem.W.mg_of X G a8,
    b_p_pairs_done := F8.binds (fun _ _ _ _ _ _ us hl => match us, hl with | [_, _, _], _ => rfl),
    a_p_takes_done := f9,
    d_p_takes_done := _,
    F_p_takes_done := F9,
    g_p_takes_done := PySem.W.mg_of X G a9,
    b_p_takes_done := F9.binds (fun _ _ _ _ _ _ us hl => match us, hl with | [_, _, _, _], _ => rfl),
    a_p_tie_done := f10,
    d_p_tie_done := _,
    F_p_tie_done := F10,
    g_p_tie_done := PySem.W.mg_of X G a10,
    b_p_tie_done := F10.binds (fun _ _ _ _ _ _ us hl => match us, hl with | [_, _, _, _], _ => rfl),
    a_p_deed_done := f11,
    d_p_deed_done := _,
    F_p_deed_done := F11,
    g_p_deed_done := PySem.W.mg_of X G a11,
    b_p_deed_done := F11.binds (fun _ _ _ _ _ _ us hl => match us, hl with | [_, _], _ => rfl),
    a_p_choice_done := f12,
    d_p_choice_done := _,
    F_p_choice_done := F12,
    g_p_choice_done := PySem.W.mg_of X G a12,
    b_p_choice_done := F12.binds (fun _ _ _ _ _ _ us hl => match us, hl with | [_, _], _ => rfl),
    a_p_items_done := f13,
    d_p_items_done := _,
    F_p_items_done := F13,
    g_p_items_done := PySem.W.mg_of X G a13,
    b_p_items_done := F13.binds (fun _ _ _ _ _ _ us hl => match us, hl with | [_, _], _ => rfl),
    a_p_company_done := f14,
    d_p_company_done := _,
    F_p_company_done := F14,
    g_p_company_done := PySem.W.mg_of X G a14,
    b_p_company_done := F14.binds (fun _ _ _ _ _ _ us hl => match us, hl with | [_, _], _ => rfl),
    a_p_is_integer := f15,
    d_p_is_integer := _,
    F_p_is_integer := F15,
    g_p_is_integer := PySem.W.mg_of X G a15,
    b_p_is_integer := F15.binds (fun _ _ _ _ _ _ us hl => match us, hl with | [_], _ => rfl),
    a_p_is_between := f16,
    d_p_is_between := _,
    F_p_is_between := F16,
    g_p_is_between := PySem.W.mg_of X G a16,
    b_p_is_between := F16.binds (fun _ _ _ _ _ _ us hl => match us, hl with | [_, _, _], _ => rfl),
    a_p_is_tuple_of := f17,
    d_p_is_tuple_of := _,
    F_p_is_tuple_of := F17,
    g_p_is_tuple_of := PySem.W.mg_of X G a17,
    b_p_is_tuple_of := F17.binds (fun _ _ _ _ _ _ us hl => match us, hl with | [_, _], _ => rfl),
    a_p_is_ascending := f18,
    d_p_is_ascending := _,
    F_p_is_ascending := F18,
    g_p_is_ascending := PySem.W.mg_of X G a18,
    b_p_is_ascending := F18.binds (fun _ _ _ _ _ _ us hl => match us, hl with | [_], _ => rfl),
    a_p_is_pair_of := f19,
    d_p_is_pair_of := _,
    F_p_is_pair_of := F19,
    g_p_is_pair_of := PySem.W.mg_of X G a19,
    b_p_is_pair_of := F19.binds (fun _ _ _ _ _ _ us hl => match us, hl with | [_, _], _ => rfl),
    a_p_are_ties_of := f20,
    d_p_are_ties_of := _,
    F_p_are_ties_of := F20,
    g_p_are_ties_of := PySem.W.mg_of X G a20,
    b_p_are_ties_of := F20.binds (fun _ _ _ _ _ _ us hl => match us, hl with | [_, _], _ => rfl),
    a_p_is_company_of := f21,
    d_p_is_company_of := _,
    F_p_is_company_of := F21,
    g_p_is_company_of := PySem.W.mg_of X G a21,
    b_p_is_company_of := F21.binds (fun _ _ _ _ _ _ us hl => match us, hl with | [_, _], _ => rfl),
    a_p_are_answers := f22,
    d_p_are_answers := _,
    F_p_are_answers := F22,
    g_p_are_answers := PySem.W.mg_of X G a22,
    b_p_are_answers := F22.binds (fun _ _ _ _ _ _ us hl => match us, hl with | [_, _], _ => rfl),
    a_p_are_two_named := f23,
    d_p_are_two_named := _,
    F_p_are_two_named := F23,
    g_p_are_two_named := PySem.W.mg_of X G a23,
    b_p_are_two_named := F23.binds (fun _ _ _ _ _ _ us hl => match us, hl with | [_, _, _], _ => rfl),
    a_p_is_deed_of := f24,
    d_p_is_deed_of := _,
    F_p_is_deed_of := F24,
    g_p_is_deed_of := PySem.W.mg_of X G a24,
    b_p_is_deed_of := F24.binds (fun _ _ _ _ _ _ us hl => match us, hl with | [_, _], _ => rfl),
    a_p_is_asking := f25,
    d_p_is_asking := _,
    F_p_is_asking := F25,
    g_p_is_asking := PySem.W.mg_of X G a25,
    b_p_is_asking := F25.binds (fun _ _ _ _ _ _ us hl => match us, hl with | [_, _], _ => rfl),
    a_p_left_behind := f26,
    d_p_left_behind := _,
    F_p_left_behind := F26,
    g_p_left_behind := PySem.W.mg_of X G a26,
    b_p_left_behind := F26.binds (fun _ _ _ _ _ _ us hl => match us, hl with | [_, _, _, _], _ => rfl),
    a_p_left_behind_item := f27,
    d_p_left_behind_item := _,
    F_p_left_behind_item := F27,
    g_p_left_behind_item := PySem.W.mg_of X G a27,
    b_p_left_behind_item := F27.binds (fun _ _ _ _ _ _ us hl => match us, hl with | [_, _, _, _], _ => rfl),
    a_p_is_script_of := f28,
    d_p_is_script_of := _,
    F_p_is_script_of := F28,
    g_p_is_script_of := PySem.W.mg_of X G a28,
    b_p_is_script_of := F28.binds (fun _ _ _ _ _ _ us hl => match us, hl with | [_, _], _ => rfl),
    a_p_check_named := f29,
    d_p_check_named := _,
    F_p_check_named := F29,
    g_p_check_named := PySem.W.mg_of X G a29,
    b_p_check_named := F29.binds (fun _ _ _ _ _ _ us hl => match us, hl with | [_], _ => rfl),
    a_p_check_company := f30,
    d_p_check_company := _,
    F_p_check_company := F30,
    g_p_check_company := PySem.W.mg_of X G a30,
    b_p_check_company := F30.binds (fun _ _ _ _ _ _ us hl => match us, hl with | [_, _], _ => rfl),
    a_p_check_script := f31,
    d_p_check_script := _,
    F_p_check_script := F31,
    g_p_check_script := PySem.W.mg_of X G a31,
    b_p_check_script := F31.binds (fun _ _ _ _ _ _ us hl => match us, hl with | [_, _], _ => rfl),
    a_p_done := f32,
    d_p_done := _,
    F_p_done := F32,
    g_p_done := PySem.W.mg_of X G a32,
    b_p_done := F32.binds (fun _ _ _ _ _ _ us hl => match us, hl with | [_, _, _], _ => rfl),
    a_Lcup := f33,
    d_Lcup := _,
    F_Lcup := F33,
    g_Lcup := PySem.W.mg_of X G a33,
    b_Lcup := F33.binds (fun _ _ _ _ _ _ us hl => match us, hl with | [_], _ => rfl),
    a_Lroll := f34,
    d_Lroll := _,
    F_Lroll := F34,
    g_Lroll := PySem.W.mg_of X G a34,
    b_Lroll := F34.binds (fun _ _ _ _ _ _ us hl => match us, hl with | [_, _], _ => rfl),
    a_Lsome := f35,
    d_Lsome := _,
    F_Lsome := F35,
    g_Lsome := PySem.W.mg_of X G a35,
    b_Lsome := F35.binds (fun _ _ _ _ _ _ us hl => match us, hl with | [_, _], _ => rfl),
    a_Lpairs := f36,
    d_Lpairs := _,
    F_Lpairs := F36,
    g_Lpairs := PySem.W.mg_of X G a36,
    b_Lpairs := F36.binds (fun _ _ _ _ _ _ us hl => match us, hl with | [_], _ => rfl),
    a_Lcompany := f37,
    d_Lcompany := _,
    F_Lcompany := F37,
    g_Lcompany := PySem.W.mg_of X G a37,
    b_Lcompany := F37.binds (fun _ _ _ _ _ _ us hl => match us, hl with | [_, _, _, _], _ => rfl),
    a_Lanswers := f38,
    d_Lanswers := _,
    F_Lanswers := F38,
    g_Lanswers := PySem.W.mg_of X G a38,
    b_Lanswers := F38.binds (fun _ _ _ _ _ _ us hl => match us, hl with | [_, _], _ => rfl),
    a_Ldeed := f39,
    d_Ldeed := _,
    F_Ldeed := F39,
    g_Ldeed := PySem.W.mg_of X G a39,
    b_Ldeed := F39.binds (fun _ _ _ _ _ _ us hl => match us, hl with | [_, _], _ => rfl),
    a_Ltwo := f40,
    d_Ltwo := _,
    F_Ltwo := F40,
    g_Ltwo := PySem.W.mg_of X G a40,
    b_Ltwo := F40.binds (fun _ _ _ _ _ _ us hl => match us, hl with | [_, _], _ => rfl),
    a_Lknows := f41,
    d_Lknows := _,
    F_Lknows := F41,
    g_Lknows := PySem.W.mg_of X G a41,
    b_Lknows := F41.binds (fun _ _ _ _ _ _ us hl => match us, hl with | [_, _, _], _ => rfl),
    a_Lbehind := f42,
    d_Lbehind := _,
    F_Lbehind := F42,
    g_Lbehind := PySem.W.mg_of X G a42,
    b_Lbehind := F42.binds (fun _ _ _ _ _ _ us hl => match us, hl with | [_, _], _ => rfl),
    a_Law := fa,
    d_Law := _,
    F_Law := F43,
    g_Law := PySem.W.mg_of X G a43,
    b_Law := F43.binds (fun _ _ _ _ _ _ us hl => match us, hl with | [_], _ => rfl),
    z_abs := PySem.W.mg_none_of X G z_abs,
    z_all := PySem.W.mg_none_of X G z_all,
    z_bool := PySem.W.mg_none_of X G z_bool,
    z_enumerate := PySem.W.mg_none_of X G z_enumerate,
    z_int := PySem.W.mg_none_of X G z_int,
    z_isinstance := PySem.W.mg_none_of X G z_isinstance,
    z_len := PySem.W.mg_none_of X G z_len,
    z_list := PySem.W.mg_none_of X G z_list,
    z_range := PySem.W.mg_none_of X G z_range,
    z_tuple := PySem.W.mg_none_of X G z_tuple,
    z_zip := PySem.W.mg_none_of X G z_zip,
    t_MOST_DEPTH := t_MOST_DEPTH,
    c_MOST_DEPTH := PySem.W.mg_of X G m_MOST_DEPTH,
    t_MOST_ITEMS := t_MOST_ITEMS,
    c_MOST_ITEMS := PySem.W.mg_of X G m_MOST_ITEMS,
    t_MOST_NAMED := t_MOST_NAMED,
    c_MOST_NAMED := PySem.W.mg_of X G m_MOST_NAMED,
    t_MOST_PEOPLE := t_MOST_PEOPLE,
    c_MOST_PEOPLE := PySem.W.mg_of X G m_MOST_PEOPLE,
    a_WORDS := a_WORDS,
    c_WORDS := PySem.W.mg_of X G m_WORDS,
    r_WORDS := fun H ms ex => .ct (xs := [V.str "know", V.str "part", V.str "turn"]) (.inr ⟨_, _, _, l_WORDS, rfl, rfl, (by show (3 : Nat) ≤ sizeLine; decide), (.cons ⟨_, rfl⟩ (.cons ⟨_, rfl⟩ (.cons ⟨_, rfl⟩ .nil)))⟩) (.cons (.str _) (.cons (.str _) (.cons (.str _) .nil))) }
  have one : ∀ {P : Addr × Addr → Prop}, P (cd6, kt6) → ∀ p ∈ [(cd6, kt6)], P p := fun h p hp => List.mem_singleton.mp hp ▸ h
  refine ⟨T.d_Law, [(cd6, kt6)], spM [kt6] K 1 (gLaw cB 41), one hT6, one nT6, one (PySem.W.codeHd_of_K X hC6), fun s v => .of_eq rfl, fun H a ns hl _ hH hS => sp_end cB H a ns hl (fun k hk => ?_) hS, fun base _ _ hB => law_ok T ⟨?_, List.mem_singleton.mpr rfl⟩ 40⟩
  · rw [List.mem_singleton.mp hk]
    exact hH (cd6, kt6) (List.mem_singleton.mpr rfl)
  · have t := hB (cd6, kt6) (List.mem_singleton.mpr rfl)
    exact ⟨t.code, t.bm, t.gP⟩
end MT

open PySem PySem.W PyProof.Rows
local macro_rules | `(tactic| o_head ($_:ident $k $a $e)) => `(tactic| o_head (PySem.W.kmHook $k $a $e [66]))
set_option maxHeartbeats 0 in
theorem PySem.Challenge.cw_twobesides_k08_whole_deeds_pair_by_pair_holds : PySem.Challenge.rw_twobesides_k08_whole_deeds_pair_by_pair.Holds := by
  w_on; o_law; k_head; (case hw => w_witness2)
  k_fill
  refine LamX.walk_ofTs (l := PySem.Challenge.rw_twobesides_k08_whole_deeds_pair_by_pair) (n := 63) (k := 42) (x := "_law_script") (CX := fun _ => L2.CX0) rfl (by decide) rfl ⟨rfl, by decide, by decide⟩ (fun w h Y => PySem.W.km_in_of Y) ?F (fun _ _ _ _ _ h => h)
  case F =>
    intro w mg fa h Y KX G hmg
    refine' MT.all_mk (kt6 := 66) KX G hmg (PySem.W.km_tabs_of Y 66 (List.mem_singleton.mpr rfl)) ?nT ?hC ?aB ?kB ?mB ?pB ?hB ?oB ?sB ?nB_people ?nB_full ?nB_ties ?a0 ?l0 ?c0 ?k0 ?a1 ?l1 ?c1 ?k1 ?a2 ?l2 ?c2 ?k2 ?i2 ?a3 ?l3 ?c3 ?k3 ?i3 ?a4 ?l4 ?c4 ?k4 ?i4 ?a5 ?l5 ?c5 ?k5 ?a6 ?l6 ?c6 ?k6 ?a7 ?l7 ?c7 ?k7 ?a8 ?l8 ?c8 ?k8 ?a9 ?l9 ?c9 ?k9 ?a10 ?l10 ?c10 ?k10 ?a11 ?l11 ?c11 ?k11 ?a12 ?l12 ?c12 ?k12 ?a13 ?l13 ?c13 ?k13 ?a14 ?l14 ?c14 ?k14 ?a15 ?l15 ?c15 ?k15 ?a16 ?l16 ?c16 ?k16 ?a17 ?l17 ?c17 ?k17 ?a18 ?l18 ?c18 ?k18 ?a19 ?l19 ?c19 ?k19 ?a20 ?l20 ?c20 ?k20 ?a21 ?l21 ?c21 ?k21 ?a22 ?l22 ?c22 ?k22 ?a23 ?l23 ?c23 ?k23 ?a24 ?l24 ?c24 ?k24 ?a25 ?l25 ?c25 ?k25 ?a26 ?l26 ?c26 ?k26 ?a27 ?l27 ?c27 ?k27 ?a28 ?l28 ?c28 ?k28 ?a29 ?l29 ?c29 ?k29 ?a30 ?l30 ?c30 ?k30 ?a31 ?l31 ?c31 ?k31 ?a32 ?l32 ?c32 ?k32 ?a33 ?l33 ?c33 ?k33 ?a34 ?l34 ?c34 ?k34 ?a35 ?l35 ?c35 ?k35 ?a36 ?l36 ?c36 ?k36 ?a37 ?l37 ?c37 ?k37 ?a38 ?l38 ?c38 ?k38 ?a39 ?l39 ?c39 ?k39 ?a40 ?l40 ?c40 ?k40 ?a41 ?l41 ?c41 ?k41 ?a42 ?l42 ?c42 ?k42 ?a43 ?l43 ?c43 ?k43 ?z_abs ?z_all ?z_bool ?z_enumerate ?z_int ?z_isinstance ?z_len ?z_list ?z_range ?z_tuple ?z_zip ?m_MOST_DEPTH ?m_MOST_ITEMS ?m_MOST_NAMED ?m_MOST_PEOPLE ?m_WORDS ?l_WORDS
    (case nT => kernel_rfl); (case aB => k_is); (case kB => k_is); (case mB => k_is); (case pB => k_is); (case hB => k_is); (case oB => k_is); (case sB => k_is); (case nB_people => k_is); (case nB_full => k_is); (case nB_ties => k_is); (case a0 => k_is); (case l0 => k_is); (case c0 => k_is); (case k0 => k_is); (case a1 => k_is); (case l1 => k_is); (case c1 => k_is); (case k1 => k_is); (case a2 => k_is); (case l2 => k_is); (case c2 => k_is); (case k2 => k_is); (case i2 => k_is); (case a3 => k_is); (case l3 => k_is); (case c3 => k_is); (case k3 => k_is); (case i3 => k_is); (case a4 => k_is); (case l4 => k_is); (case c4 => k_is); (case k4 => k_is); (case i4 => k_is); (case a5 => k_is); (case l5 => k_is); (case c5 => k_is); (case k5 => k_is); (case a6 => k_is); (case l6 => k_is); (case c6 => k_is); (case k6 => k_is); (case a7 => k_is); (case l7 => k_is); (case c7 => k_is); (case k7 => k_is); (case a8 => k_is); (case l8 => k_is); (case c8 => k_is); (case k8 => k_is); (case a9 => k_is); (case l9 => k_is); (case c9 => k_is); (case k9 => k_is); (case a10 => k_is); (case l10 => k_is); (case c10 => k_is); (case k10 => k_is); (case a11 => k_is); (case l11 => k_is); (case c11 => k_is); (case k11 => k_is); (case a12 => k_is); (case l12 => k_is); (case c12 => k_is); (case k12 => k_is); (case a13 => k_is); (case l13 => k_is); (case c13 => k_is); (case k13 => k_is); (case a14 => k_is); (case l14 => k_is); (case c14 => k_is); (case k14 => k_is); (case a15 => k_is); (case l15 => k_is); (case c15 => k_is); (case k15 => k_is); (case a16 => k_is); (case l16 => k_is); (case c16 => k_is); (case k16 => k_is); (case a17 => k_is); (case l17 => k_is); (case c17 => k_is); (case k17 => k_is); (case a18 => k_is); (case l18 => k_is); (case c18 => k_is); (case k18 => k_is); (case a19 => k_is); (case l19 => k_is); (case c19 => k_is); (case k19 => k_is); (case a20 => k_is); (case l20 => k_is); (case c20 => k_is); (case k20 => k_is); (case a21 => k_is); (case l21 => k_is); (case c21 => k_is); (case k21 => k_is); (case a22 => k_is); (case l22 => k_is); (case c22 => k_is); (case k22 => k_is); (case a23 => k_is); (case l23 => k_is); (case c23 => k_is); (case k23 => k_is); (case a24 => k_is); (case l24 => k_is); (case c24 => k_is); (case k24 => k_is); (case a25 => k_is); (case l25 => k_is); (case c25 => k_is); (case k25 => k_is); (case a26 => k_is); (case l26 => k_is); (case c26 => k_is); (case k26 => k_is); (case a27 => k_is); (case l27 => k_is); (case c27 => k_is); (case k27 => k_is); (case a28 => k_is); (case l28 => k_is); (case c28 => k_is); (case k28 => k_is); (case a29 => k_is); (case l29 => k_is); (case c29 => k_is); (case k29 => k_is); (case a30 => k_is); (case l30 => k_is); (case c30 => k_is); (case k30 => k_is); (case a31 => k_is); (case l31 => k_is); (case c31 => k_is); (case k31 => k_is); (case a32 => k_is); (case l32 => k_is); (case c32 => k_is); (case k32 => k_is); (case a33 => k_is); (case l33 => k_is); (case c33 => k_is); (case k33 => k_is); (case a34 => k_is); (case l34 => k_is); (case c34 => k_is); (case k34 => k_is); (case a35 => k_is); (case l35 => k_is); (case c35 => k_is); (case k35 => k_is); (case a36 => k_is); (case l36 => k_is); (case c36 => k_is); (case k36 => k_is); (case a37 => k_is); (case l37 => k_is); (case c37 => k_is); (case k37 => k_is); (case a38 => k_is); (case l38 => k_is); (case c38 => k_is); (case k38 => k_is); (case a39 => k_is); (case l39 => k_is); (case c39 => k_is); (case k39 => k_is); (case a40 => k_is); (case l40 => k_is); (case c40 => k_is); (case k40 => k_is); (case a41 => k_is); (case l41 => k_is); (case c41 => k_is); (case k41 => k_is); (case a42 => k_is); (case l42 => k_is); (case c42 => k_is); (case k42 => k_is); (case a43 => k_is); (case l43 => k_is); (case c43 => k_is); (case k43 => k_is); (case z_abs => k_is); (case z_all => k_is); (case z_bool => k_is); (case z_enumerate => k_is); (case z_int => k_is); (case z_isinstance => k_is); (case z_len => k_is); (case z_list => k_is); (case z_range => k_is); (case z_tuple => k_is); (case z_zip => k_is); (case m_MOST_DEPTH => k_is); (case m_MOST_ITEMS => k_is); (case m_MOST_NAMED => k_is); (case m_MOST_PEOPLE => k_is); (case m_WORDS => k_is); (case l_WORDS => k_is); (case hC => kernel_rfl)

