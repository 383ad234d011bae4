import PyProof.Rows.All
import Wide.All
import OpenK.AllK
import Wide.FinOn
import HandS.ForMost
import HandS.IsInst
import HandS.TupAny
import HandS.TupMul
import HandS.Style
import HandS.Deep
import HandS.Wide
import HandS.Flt
import KE.DataEq
import PySem.Challenge.RW_twobesides_k07_whole_scripts_as_values
set_option Elab.async false
set_option linter.all false
set_option maxRecDepth 100000
set_option maxHeartbeats 4000000
/-! ML1: a mirror of a def's body by plain functions over data, and what it says of the heap. -/
namespace ML
open PySem PySem.Spec PyProof.Rows L2

/-- data: what a value says, with the tuples and lists told through; mu n: the n-th list that may change; fz: a list that nobody may change -/
inductive D where
  | non | bl (b : Bool) | int (i : Int) | str (x : Str) | tup (xs : List D) | lst (xs : List D) | mu (n : Nat) | fz (xs : List D)

abbrev MM := List (List D)
abbrev En := List (Option D)
abbrev FE := En → MM → Option (D × MM)
abbrev FB := En → MM → Option (Bool × MM)
abbrev FA := En → MM → Option (List D × MM)
inductive Out where
  | nx (r : En) | rt (d : D) | bk (r : En) | ct (r : En)
abbrev FS := En → MM → Option (Out × MM)
abbrev FT := D → En → Option En
abbrev FC := List D → MM → Option (D × MM)

/-- a list that nobody may change: the script's, or one of the written part -/
def Fz (K : PySem.W.Frag) (H : Hp) (a : Addr) (xs : List V) : Prop := (∃ o : Obj, H a = some (.frz o (.lst xs))) ∨
  ∃ (o : Obj) (its : Array Value) (n : Nat), K.lookup a = some o ∧ o.cls = .type "list" ∧ o.dict = none ∧ o.data = .seq its n ∧ its.size ≤ sizeLine ∧ Vals xs its.toList
theorem Fz.sq {K : PySem.W.Frag} {H : Hp} {a : Addr} {xs : List V} (h : Fz K H a xs) : SqL K H a xs := by
  rcases h with ⟨o, h⟩ | h
  · exact .inl (.inr ⟨o, h⟩)
  · exact .inr h
mutual
inductive RV (K : PySem.W.Frag) (H : Hp) (ms ex : List Addr) : V → D → Prop
  | non : RV K H ms ex .non .non
  | bl (b : Bool) : RV K H ms ex (.bl b) (.bl b)
  | int (i : Int) : RV K H ms ex (.int i) (.int i)
  | str (x : Str) : RV K H ms ex (.str x) (.str x)
  | tup {a : Addr} {xs : List V} {ds : List D} : SqT K H a xs → RVs K H ms ex xs ds → RV K H ms ex (.ref a) (.tup ds)
  | fz {a : Addr} {xs : List V} {ds : List D} : Fz K H a xs → RVs K H ms ex xs ds → RV K H ms ex (.ref a) (.fz ds)
  | lst {a : Addr} {xs : List V} {ds : List D} : H a = some (.lst xs) → a ∉ ms → a ∉ ex → RVs K H ms ex xs ds → RV K H ms ex (.ref a) (.lst ds)
  | mu {a : Addr} {n : Nat} : ms[n]? = some a → RV K H ms ex (.ref a) (.mu n)
inductive RVs (K : PySem.W.Frag) (H : Hp) (ms ex : List Addr) : List V → List D → Prop
  | nil : RVs K H ms ex [] []
  | cons {v : V} {vs : List V} {d : D} {ds : List D} : RV K H ms ex v d → RVs K H ms ex vs ds → RVs K H ms ex (v :: vs) (d :: ds)
end

variable {K : PySem.W.Frag} {H H' H1 : Hp} {ms ms' ex ex' : List Addr} {M M' M1 : MM}

theorem RVs.length : ∀ {vs : List V} {ds : List D}, RVs K H ms ex vs ds → vs.length = ds.length
  | _, _, .nil => rfl
  | _, _, .cons _ t => by simp [RVs.length t]
theorem RVs.get : ∀ {vs : List V} {ds : List D} {i : Nat} {d : D}, RVs K H ms ex vs ds → ds[i]? = some d → ∃ v, vs[i]? = some v ∧ RV K H ms ex v d
  | _, _, _, _, .nil, e => by simp at e
  | _, _, 0, _, .cons r _, e => by simp at e; subst e; exact ⟨_, rfl, r⟩
  | _, _, i + 1, d, .cons _ t, e => by
    obtain ⟨u, h1, h2⟩ := RVs.get (i := i) (d := d) t (by simpa using e)
    exact ⟨u, by simpa using h1, h2⟩
theorem RVs.get' : ∀ {vs : List V} {ds : List D} {i : Nat} {v : V}, RVs K H ms ex vs ds → vs[i]? = some v → ∃ d, ds[i]? = some d ∧ RV K H ms ex v d
  | _, _, _, _, .nil, e => by simp at e
  | _, _, 0, _, .cons r _, e => by simp at e; subst e; exact ⟨_, rfl, r⟩
  | _, _, i + 1, d, .cons _ t, e => by
    obtain ⟨u, h1, h2⟩ := RVs.get' (i := i) (v := d) t (by simpa using e)
    exact ⟨u, by simpa using h1, h2⟩
theorem RVs.append : ∀ {xs ys : List V} {ds es : List D}, RVs K H ms ex xs ds → RVs K H ms ex ys es → RVs K H ms ex (xs ++ ys) (ds ++ es)
  | _, _, _, _, .nil, s => s
  | _, _, _, _, .cons r t, s => .cons r (RVs.append t s)
theorem RVs.take : ∀ {xs : List V} {ds : List D} (n : Nat), RVs K H ms ex xs ds → RVs K H ms ex (xs.take n) (ds.take n)
  | _, _, 0, _ => .nil
  | _, _, _ + 1, .nil => .nil
  | _, _, n + 1, .cons r t => .cons r (RVs.take n t)
theorem RVs.drop : ∀ {xs : List V} {ds : List D} (n : Nat), RVs K H ms ex xs ds → RVs K H ms ex (xs.drop n) (ds.drop n)
  | _, _, 0, r => r
  | _, _, _ + 1, .nil => .nil
  | _, _, n + 1, .cons _ t => RVs.drop n t
theorem RVs.set {v : V} {d : D} (r : RV K H ms ex v d) : ∀ {xs : List V} {ds : List D} (i : Nat), RVs K H ms ex xs ds → RVs K H ms ex (xs.set i v) (ds.set i d)
  | _, _, _, .nil => .nil
  | _, _, 0, .cons _ t => .cons r t
  | _, _, i + 1, .cons q t => .cons q (RVs.set r i t)
theorem RVs.rep {xs : List V} {ds : List D} (h : RVs K H ms ex xs ds) : ∀ k : Nat, RVs K H ms ex (List.replicate k xs).flatten (List.replicate k ds).flatten
  | 0 => .nil
  | k + 1 => by rw [List.replicate_succ, List.replicate_succ, List.flatten_cons, List.flatten_cons]; exact h.append (RVs.rep h k)
theorem RVs.ints : ∀ {vs : List V} {ns : List Int}, RVs K H ms ex vs (ns.map D.int) → vs = ns.map V.int
  | _, [], h => by cases h; rfl
  | _, n :: ns, h => by
    cases h with
    | cons a b => cases a; rw [RVs.ints b]; rfl
theorem RVs.bools : ∀ {vs : List V} {ns : List Bool}, RVs K H ms ex vs (ns.map D.bl) → vs = ns.map V.bl
  | _, [], h => by cases h; rfl
  | _, n :: ns, h => by
    cases h with
    | cons a b => cases a; rw [RVs.bools b]; rfl
theorem RVs.of_ints : ∀ (ns : List Int), RVs K H ms ex (ns.map V.int) (ns.map D.int)
  | [] => .nil
  | n :: ns => .cons (.int n) (RVs.of_ints ns)

/-- from one heap to the next: what is tracked stays, but for the lists that may change -/
def Ext (ms : List Addr) (H H' : Hp) : Prop := ∀ a o, H a = some o → a ∉ ms → H' a = some o
theorem Ext.refl (H : Hp) : Ext ms H H := fun _ _ h _ => h
theorem Ext.trans (a : Ext ms H H1) (b : Ext ms H1 H') : Ext ms H H' := fun c o h n => b c o (a c o h n) n
theorem Ext.of (h : Same H H') : Ext ms H H' := fun a o e _ => h a o e

/-- the lists that may change, and those that are being made -/
structure RM (K : PySem.W.Frag) (H : Hp) (ms ex : List Addr) (M : MM) : Prop where
  len : ms.length = M.length
  nd : ms.Nodup
  at_ : ∀ (n : Nat) (a : Addr) (ds : List D), ms[n]? = some a → M[n]? = some ds → ∃ xs, H a = some (.lst xs) ∧ RVs K H ms ex xs ds
  exs : ∀ a ∈ ex, a ∉ ms ∧ ∃ xs, H a = some (.lst xs)
theorem RM.lst (h : RM K H ms ex M) {a : Addr} (ha : a ∈ ms ∨ a ∈ ex) : ∃ xs, H a = some (.lst xs) := by
  rcases ha with ha | ha
  · obtain ⟨n, hn, e⟩ := List.getElem_of_mem ha
    have e1 : ms[n]? = some a := by rw [List.getElem?_eq_getElem hn, e]
    have hn' : n < M.length := by rw [← h.len]; exact hn
    obtain ⟨xs, q, _⟩ := h.at_ n a M[n] e1 (List.getElem?_eq_getElem hn')
    exact ⟨xs, q⟩
  · exact (h.exs a ha).2

theorem SqT.stay {a : Addr} {xs : List V} (hw : ∀ b, b ∈ ms ∨ b ∈ ex → ∃ ys, H b = some (.lst ys)) (k : ∀ b o, H b = some o → b ∉ ms → b ∉ ex → H' b = some o) (h : SqT K H a xs) : SqT K H' a xs := by
  have nm : ∀ o, H a = some o → (∀ ys, o ≠ .lst ys) → a ∉ ms ∧ a ∉ ex := fun o e d => by
    constructor
    · intro z
      obtain ⟨ys, q⟩ := hw a (.inl z)
      rw [e] at q
      exact d ys (Option.some.inj q)
    · intro z
      obtain ⟨ys, q⟩ := hw a (.inr z)
      rw [e] at q
      exact d ys (Option.some.inj q)
  rcases h with (h | ⟨o, h⟩) | h
  · obtain ⟨n1, n2⟩ := nm _ h (fun ys z => by cases z)
    exact .inl (.inl (k a _ h n1 n2))
  · obtain ⟨n1, n2⟩ := nm _ h (fun ys z => by cases z)
    exact .inl (.inr ⟨o, k a _ h n1 n2⟩)
  · exact .inr h

mutual
theorem RV.mono (h1 : ∀ (n : Nat) (a : Addr), ms[n]? = some a → ms'[n]? = some a) (h2 : ∀ a o, H a = some o → (a ∈ ms' → a ∈ ms) ∧ (a ∈ ex' → a ∈ ms ∨ a ∈ ex))
    (hw : ∀ b, b ∈ ms ∨ b ∈ ex → ∃ ys, H b = some (.lst ys)) (k : ∀ b o, H b = some o → b ∉ ms → b ∉ ex → H' b = some o) : ∀ {v : V} {d : D}, RV K H ms ex v d → RV K H' ms' ex' v d
  | _, _, .non => .non
  | _, _, .bl b => .bl b
  | _, _, .int i => .int i
  | _, _, .str x => .str x
  | _, _, .tup s r => .tup (SqT.stay hw k s) (RVs.mono h1 h2 hw k r)
  | _, _, .fz (a := a) s r => by
    refine .fz ?_ (RVs.mono h1 h2 hw k r)
    rcases s with ⟨o, s⟩ | s
    · refine .inl ⟨o, k a _ s ?_ ?_⟩
      · intro z
        obtain ⟨ys, q⟩ := hw a (.inl z)
        rw [s] at q
        cases q
      · intro z
        obtain ⟨ys, q⟩ := hw a (.inr z)
        rw [s] at q
        cases q
    · exact .inr s
  | _, _, .lst (a := a) s n1 n2 r => .lst (k a _ s n1 n2) (fun z => n1 ((h2 a _ s).1 z)) (fun z => ((h2 a _ s).2 z).elim n1 n2) (RVs.mono h1 h2 hw k r)
  | _, _, .mu e => .mu (h1 _ _ e)
theorem RVs.mono (h1 : ∀ (n : Nat) (a : Addr), ms[n]? = some a → ms'[n]? = some a) (h2 : ∀ a o, H a = some o → (a ∈ ms' → a ∈ ms) ∧ (a ∈ ex' → a ∈ ms ∨ a ∈ ex))
    (hw : ∀ b, b ∈ ms ∨ b ∈ ex → ∃ ys, H b = some (.lst ys)) (k : ∀ b o, H b = some o → b ∉ ms → b ∉ ex → H' b = some o) : ∀ {v : List V} {d : List D}, RVs K H ms ex v d → RVs K H' ms' ex' v d
  | _, _, .nil => .nil
  | _, _, .cons a b => .cons (RV.mono h1 h2 hw k a) (RVs.mono h1 h2 hw k b)
end
theorem RV.ext {v : V} {d : D} (m : RM K H ms ex M) (e : Ext ms H H') (h : RV K H ms ex v d) : RV K H' ms ex v d :=
  RV.mono (fun _ _ z => z) (fun _ _ _ => ⟨id, .inr⟩) (fun _ z => m.lst z) (fun b o q n _ => e b o q n) h
theorem RVs.ext {v : List V} {d : List D} (m : RM K H ms ex M) (e : Ext ms H H') (h : RVs K H ms ex v d) : RVs K H' ms ex v d :=
  RVs.mono (fun _ _ z => z) (fun _ _ _ => ⟨id, .inr⟩) (fun _ z => m.lst z) (fun b o q n _ => e b o q n) h
theorem RM.same (m : RM K H ms ex M) (e : Same H H') : RM K H' ms ex M :=
  ⟨m.len, m.nd, fun n a ds h1 h2 => by
    obtain ⟨xs, q, r⟩ := m.at_ n a ds h1 h2
    exact ⟨xs, e _ _ q, RVs.ext m (Ext.of e) r⟩, fun a h => by
    obtain ⟨n, xs, q⟩ := m.exs a h
    exact ⟨n, xs, e _ _ q⟩⟩
theorem same_new {p : Addr} {o : HO} (h : H p = none) : Same H (upd H p o) := fun b x e => by
  rw [upd_ne (ne_of_none e h)]
  exact e

/-- the slots -/
structure Sl (K : PySem.W.Frag) (H : Hp) (ms ex : List Addr) (σ : L2.St) (r : En) : Prop where
  len : σ.length = r.length
  at_ : ∀ (i : Nat) (d : D), r[i]? = some (some d) → ∃ v, σ[i]? = some (some v) ∧ RV K H ms ex v d
theorem Sl.ext {σ : L2.St} {r : En} (m : RM K H ms ex M) (e : Ext ms H H') (h : Sl K H ms ex σ r) : Sl K H' ms ex σ r :=
  ⟨h.len, fun i d q => by
    obtain ⟨v, a, b⟩ := h.at_ i d q
    exact ⟨v, a, b.ext m e⟩⟩
theorem Sl.set {σ : L2.St} {r : En} {i : Nat} {v : V} {d : D} (h : Sl K H ms ex σ r) (hv : RV K H ms ex v d) : Sl K H ms ex (σ.set i (some v)) (r.set i (some d)) :=
  ⟨by simp [h.len], fun j e q => by
    by_cases hj : i = j
    · subst hj
      by_cases hi : i < r.length
      · rw [List.getElem?_set_self hi] at q
        cases q
        exact ⟨v, by rw [List.getElem?_set_self (by rw [h.len]; exact hi)], hv⟩
      · rw [List.getElem?_eq_none (by simpa using hi)] at q
        cases q
    · rw [List.getElem?_set_ne hj] at q
      obtain ⟨w, a, b⟩ := h.at_ j e q
      exact ⟨w, by rw [List.getElem?_set_ne hj]; exact a, b⟩⟩

/-! ### readings -/
def eM (K : PySem.W.Frag) (f : FE) : TE := fun σ H Q => ∃ ms ex r M d M', RM K H ms ex M ∧ Sl K H ms ex σ r ∧ f r M = some (d, M') ∧ ∀ H' v, Ext ms H H' → RM K H' ms ex M' → RV K H' ms ex v d → Q v H'
def bM (K : PySem.W.Frag) (f : FB) : TT := fun σ H Q => ∃ ms ex r M d M', RM K H ms ex M ∧ Sl K H ms ex σ r ∧ f r M = some (d, M') ∧ ∀ H', Ext ms H H' → RM K H' ms ex M' → Q d H'
def aM (K : PySem.W.Frag) (f : FA) : TA := fun σ H Q => ∃ ms ex r M d M', RM K H ms ex M ∧ Sl K H ms ex σ r ∧ f r M = some (d, M') ∧ ∀ H' v, Ext ms H H' → RM K H' ms ex M' → RVs K H' ms ex v d → Q v H'
def oEnd (K : PySem.W.Frag) (ms ex : List Addr) (D : Ends) (H' : Hp) : Out → Prop
  | .nx r => ∀ σ', Sl K H' ms ex σ' r → D.nx σ' H'
  | .rt d => ∀ v, RV K H' ms ex v d → D.rt v H'
  | .bk r => ∀ σ', Sl K H' ms ex σ' r → D.bk σ' H'
  | .ct r => ∀ σ', Sl K H' ms ex σ' r → D.ct σ' H'
def sM (K : PySem.W.Frag) (f : FS) : TS := fun D σ H => ∃ ms ex r M o M', RM K H ms ex M ∧ Sl K H ms ex σ r ∧ f r M = some (o, M') ∧ ∀ H', Ext ms H H' → RM K H' ms ex M' → oEnd K ms ex D H' o
def gM (K : PySem.W.Frag) (f : FT) : TG := fun v σ H Q => ∃ ms ex r d r', Sl K H ms ex σ r ∧ RV K H ms ex v d ∧ f d r = some r' ∧ ∀ σ', Sl K H ms ex σ' r' → Q σ' H
def gsM (K : PySem.W.Frag) (f : List D → En → Option En) : TGs := fun v σ H Q => ∃ ms ex r d r', Sl K H ms ex σ r ∧ RVs K H ms ex v d ∧ f d r = some r' ∧ ∀ σ', Sl K H ms ex σ' r' → Q σ' H
def spM (K : PySem.W.Frag) (n : Nat) (g : FC) : Sp := fun vs H Q _ => ∃ ms ex M ds d M', RM K H ms ex M ∧ RVs K H ms ex vs ds ∧ ds.length = n ∧ g ds M = some (d, M') ∧ ∀ H' v, Ext ms H H' → RM K H' ms ex M' → RV K H' ms ex v d → Q v H'

section
variable {X : Cx} {e : Expr} {es : List Expr} {st : Stmt} {sts : List Stmt}
theorem _root_.L2.PE.weak {t t' : TE} (h : PE X e t) (k : ∀ σ H Q, t' σ H Q → t σ H Q) : PE X e t' := ⟨fun pins s σ H Q I q => h.run pins s σ H Q I (k σ H Q q)⟩
theorem _root_.L2.PT.weak {t t' : TT} (h : PT X e t) (k : ∀ σ H Q, t' σ H Q → t σ H Q) : PT X e t' := ⟨fun pins s σ H Q I q => h.run pins s σ H Q I (k σ H Q q)⟩
theorem _root_.L2.PW.weak {t t' : TT} (h : PW X e t) (k : ∀ σ H Q, t' σ H Q → t σ H Q) : PW X e t' := ⟨fun wh pins s σ H Q I q => h.run wh pins s σ H Q I (k σ H Q q)⟩
theorem _root_.L2.PA.weak {t t' : TA} (h : PA X es t) (k : ∀ σ H Q, t' σ H Q → t σ H Q) : PA X es t' := ⟨fun pos pins s σ H Q I q => h.run pos pins s σ H Q I (k σ H Q q)⟩
theorem _root_.L2.PS.weak {t t' : TS} (h : PS X st t) (k : ∀ D σ H, t' D σ H → t D σ H) : PS X st t' := ⟨fun pins s σ H D I q => h.run pins s σ H D I (k D σ H q)⟩
theorem _root_.L2.PSs.weak {t t' : TS} (h : PSs X sts t) (k : ∀ D σ H, t' D σ H → t D σ H) : PSs X sts t' := ⟨fun pins s σ H D I q => h.run pins s σ H D I (k D σ H q)⟩
theorem _root_.L2.PG.weak {t t' : TG} (h : PG X e t) (k : ∀ v σ H Q, t' v σ H Q → t v σ H Q) : PG X e t' := ⟨fun pins s σ H v u Q I r q => h.run pins s σ H v u Q I r (k v σ H Q q)⟩
theorem _root_.L2.PGs.weak {t t' : TGs} (h : PGs X es t) (k : ∀ v σ H Q, t' v σ H Q → t v σ H Q) : PGs X es t' := ⟨fun pins s σ H v u Q I r q => h.run pins s σ H v u Q I r (k v σ H Q q)⟩
end
end ML

/-! ML2: expressions. -/
namespace ML
open PySem PySem.Spec PyProof.Rows L2
variable {K : PySem.W.Frag} {H H' H1 : Hp} {ms ms' ex ex' : List Addr} {M M' M1 : MM}

/-! ### plain functions -/
def mVar (i : Nat) : FE := fun r M => match r[i]? with
  | some (some d) => some (d, M)
  | _ => none
def mC (d : D) : FE := fun _ M => some (d, M)
def mNil : FA := fun _ M => some ([], M)
def mCons (f : FE) (g : FA) : FA := fun r M => match f r M with
  | some (d, M1) => match g r M1 with
    | some (ds, M2) => some (d :: ds, M2)
    | none => none
  | none => none
def mTup (f : FA) : FE := fun r M => match f r M with
  | some (ds, M1) => some (.tup ds, M1)
  | none => none
def mLst (f : FA) : FE := fun r M => match f r M with
  | some (ds, M1) => some (.lst ds, M1)
  | none => none
/-- an operator upon two values -/
def mOp (o : MM → D → D → Option D) (f g : FE) : FE := fun r M => match f r M with
  | some (x, M1) => match g r M1 with
    | some (y, M2) => match o M2 x y with
      | some z => some (z, M2)
      | none => none
    | none => none
  | none => none
def mUn (o : D → Option D) (f : FE) : FE := fun r M => match f r M with
  | some (x, M1) => match o x with
    | some z => some (z, M1)
    | none => none
  | none => none
def mB (f : FE) : FB := fun r M => match f r M with
  | some (.bl b, M1) => some (b, M1)
  | _ => none
def mAnd (f g : FE) : FE := fun r M => match f r M with
  | some (.bl true, M1) => g r M1
  | some (.bl false, M1) => some (.bl false, M1)
  | _ => none
def mOr (f g : FE) : FE := fun r M => match f r M with
  | some (.bl true, M1) => some (.bl true, M1)
  | some (.bl false, M1) => g r M1
  | _ => none
def mNot (f : FE) : FE := fun r M => match f r M with
  | some (.bl b, M1) => some (.bl (!b), M1)
  | _ => none
def mIf (c : FE) (f g : FE) : FE := fun r M => match c r M with
  | some (.bl true, M1) => f r M1
  | some (.bl false, M1) => g r M1
  | _ => none
def mChain (o o' : MM → D → D → Option D) (f g h : FE) : FE := fun r M => match f r M with
  | some (x, M1) => match g r M1 with
    | some (y, M2) => match o M2 x y with
      | some (.bl true) => match h r M2 with
        | some (z, M3) => match o' M3 y z with
          | some (.bl b) => some (.bl b, M3)
          | _ => none
        | none => none
      | some (.bl false) => some (.bl false, M2)
      | _ => none
    | none => none
  | none => none
/-- a function of values upon an argument list -/
def mFn (o : MM → List D → Option D) (f : FA) : FE := fun r M => match f r M with
  | some (ds, M1) => match o M1 ds with
    | some z => some (z, M1)
    | none => none
  | none => none
def mCall (g : FC) (f : FA) : FE := fun r M => match f r M with
  | some (ds, M1) => g ds M1
  | none => none

/-! ### what a rule by values wants -/
def OpS (K : PySem.W.Frag) (r : R2) (o : MM → D → D → Option D) : Prop := ∀ (H : Hp) (ms ex : List Addr) (M : MM) (v u : V) (x y z : D) (Q : VK), RM K H ms ex M → RV K H ms ex v x → RV K H ms ex u y → o M x y = some z →
  (∀ H' v', Ext ms H H' → RM K H' ms ex M → RV K H' ms ex v' z → Q v' H') → r v u H Q
def UnS (K : PySem.W.Frag) (r : V → Hp → VK → Prop) (o : D → Option D) : Prop := ∀ (H : Hp) (ms ex : List Addr) (M : MM) (v : V) (x z : D) (Q : VK), RM K H ms ex M → RV K H ms ex v x → o x = some z →
  (∀ H' v', Ext ms H H' → RM K H' ms ex M → RV K H' ms ex v' z → Q v' H') → r v H Q
def CallS (K : PySem.W.Frag) (r : List V → Hp → VK → Prop) (o : MM → List D → Option D) : Prop := ∀ (H : Hp) (ms ex : List Addr) (M : MM) (v : List V) (x : List D) (z : D) (Q : VK), RM K H ms ex M → RVs K H ms ex v x → o M x = some z →
  (∀ H' v', Ext ms H H' → RM K H' ms ex M → RV K H' ms ex v' z → Q v' H') → r v H Q

section
variable {X : Cx} {pos : Pos} {a b c : Expr} {es : List Expr} {f g h : FE} {fa : FA}

theorem eM.use {σ : L2.St} {r : En} {f : FE} {d : D} {Q : VK} (m : RM K H ms ex M) (s : Sl K H ms ex σ r) (e : f r M = some (d, M'))
    (q : ∀ H' v, Ext ms H H' → RM K H' ms ex M' → Sl K H' ms ex σ r → RV K H' ms ex v d → Q v H') : eM K f σ H Q :=
  ⟨ms, ex, r, M, d, M', m, s, e, fun H' v x m' rv => q H' v x m' (s.ext m x) rv⟩
theorem aM.use {σ : L2.St} {r : En} {f : FA} {d : List D} {Q : List V → Hp → Prop} (m : RM K H ms ex M) (s : Sl K H ms ex σ r) (e : f r M = some (d, M'))
    (q : ∀ H' v, Ext ms H H' → RM K H' ms ex M' → Sl K H' ms ex σ r → RVs K H' ms ex v d → Q v H') : aM K f σ H Q :=
  ⟨ms, ex, r, M, d, M', m, s, e, fun H' v x m' rv => q H' v x m' (s.ext m x) rv⟩
theorem bM.use {σ : L2.St} {r : En} {f : FB} {d : Bool} {Q : Bool → Hp → Prop} (m : RM K H ms ex M) (s : Sl K H ms ex σ r) (e : f r M = some (d, M'))
    (q : ∀ H', Ext ms H H' → RM K H' ms ex M' → Sl K H' ms ex σ r → Q d H') : bM K f σ H Q :=
  ⟨ms, ex, r, M, d, M', m, s, e, fun H' x m' => q H' x m' (s.ext m x)⟩

theorem m_of {i : Nat} {σ : L2.St} {Q : VK} (h : eM K (mVar i) σ H Q) : tVar i σ H Q := by
  obtain ⟨ms, ex, r, M, d, M', m, s, e, q⟩ := h
  unfold mVar at e
  split at e
  · rename_i d' hd
    cases e
    obtain ⟨v, h1, h2⟩ := s.at_ _ _ hd
    exact ⟨v, h1, q H v (Ext.refl H) m h2⟩
  · cases e
theorem me_var {i : Nat} {x : Str} (hN : X.N[i]? = some x := by rfl) (hv : Vis X.env.scope x := by first | exact Or.inl rfl | exact Or.inr (Or.inl rfl) | exact Or.inr (Or.inr rfl)) (hd : (x == ("__debug__" : Str)) = false := by decide)
    (hcd : (x == ("__classdict__" : Str)) = false := by decide) : PE X (.Name x pos) (eM X.K (mVar i)) :=
  (pe_var hN hv hd hcd).weak fun _ _ _ h => m_of h
theorem m_c {v : V} {d : D} {σ : L2.St} {Q : VK} (hv : ∀ H ms ex, RV K H ms ex v d) (h : eM K (mC d) σ H Q) : tC v σ H Q := by
  obtain ⟨ms, ex, r, M, d', M', m, s, e, q⟩ := h
  cases e
  exact q H v (Ext.refl H) m (hv _ _ _)
theorem me_int {i j} : PE X (.Constant (.int i) j pos) (eM X.K (mC (.int i))) := pe_int.weak fun _ _ _ h => m_c (fun _ _ _ => .int _) h
theorem me_bl {b j} : PE X (.Constant (.bool b) j pos) (eM X.K (mC (.bl b))) := pe_bl.weak fun _ _ _ h => m_c (fun _ _ _ => .bl _) h
theorem me_non {j} : PE X (.Constant .none j pos) (eM X.K (mC .non)) := pe_non.weak fun _ _ _ h => m_c (fun _ _ _ => .non) h
theorem me_str {x j} : PE X (.Constant (.str x) j pos) (eM X.K (mC (.str x))) := pe_str.weak fun _ _ _ h => m_c (fun _ _ _ => .str _) h
theorem me_globI {x : Str} {i : Int} {t : Tok} (hg : Gl X x) (hm : X.mg x = some (.int i t)) (hd : (x == ("__debug__" : Str)) = false := by decide) : PE X (.Name x pos) (eM X.K (mC (.int i))) :=
  (pe_glob hg hm (v := .int i) ⟨t, rfl⟩ hd).weak fun _ _ _ h => m_c (fun _ _ _ => .int _) h
theorem me_globR {x : Str} {q : Addr} {d : D} (hg : Gl X x) (hm : X.mg x = some (.ref q)) (hr : ∀ H ms ex, RV X.K H ms ex (.ref q) d) (hd : (x == ("__debug__" : Str)) = false := by decide) : PE X (.Name x pos) (eM X.K (mC d)) :=
  (pe_glob hg hm (v := .ref q) rfl hd).weak fun _ _ _ h => m_c hr h

theorem ma_nil : PA X [] (aM X.K mNil) := pa_nil.weak fun σ H Q h => by
  obtain ⟨ms, ex, r, M, d', M', m, s, e, q⟩ := h
  cases e
  exact q H [] (Ext.refl H) m .nil
theorem ma_cons (ha : PE X a (eM X.K f)) (hr : PA X es (aM X.K fa)) (hs : starEach (a :: es) X.env = (false, eval a X.env) :: starEach es X.env := by rfl) : PA X (a :: es) (aM X.K (mCons f fa)) :=
  (pa_cons ha hr hs).weak fun σ H Q h => by
    obtain ⟨ms, ex, r, M, d', M', m, s, e, q⟩ := h
    unfold mCons at e
    split at e
    · rename_i d M1 h1
      split at e
      · rename_i ds M2 h2
        cases e
        refine eM.use m s h1 fun H1 v1 x1 m1 s1 r1 => ?_
        refine aM.use m1 s1 h2 fun H2 v2 x2 m2 s2 r2 => ?_
        exact q H2 _ (x1.trans x2) m2 (.cons (r1.ext m1 x2) r2)
      · cases e
    · cases e
theorem RVs.small {v : List V} {ds : List D} (r : RVs K H ms ex v ds) (h : ds.length ≤ 1000) : v.length ≤ sizeLine := by
  rw [r.length]
  exact Nat.le_of_lt (small1000 h)
theorem me_tup {x1} (h : PA X es (aM X.K fa)) (hn : ∀ r M ds M', fa r M = some (ds, M') → ds.length ≤ 1000) : PE X (.Tuple es x1 pos) (eM X.K (mTup fa)) :=
  (pe_tup h).weak fun σ H Q h => by
    obtain ⟨ms, ex, r, M, d', M', m, s, e, q⟩ := h
    unfold mTup at e
    split at e
    · rename_i ds M1 h1
      cases e
      refine aM.use m s h1 fun H1 v1 x1 m1 s1 r1 => ⟨r1.small (hn _ _ _ _ h1), fun p hp => ?_⟩
      have sm := same_new (o := .tup v1) hp
      exact q _ _ (x1.trans (Ext.of sm)) (m1.same sm) (.tup (SqT.of upd_same) (r1.ext m1 (Ext.of sm)))
    · cases e
theorem fresh_ms (m : RM K H ms ex M) {p : Addr} (hp : H p = none) : p ∉ ms ∧ p ∉ ex := by
  constructor
  · intro z
    obtain ⟨xs, e⟩ := m.lst (.inl z)
    rw [hp] at e
    cases e
  · intro z
    obtain ⟨xs, e⟩ := m.lst (.inr z)
    rw [hp] at e
    cases e
/-- a new list -/
theorem new_lst {p : Addr} {v1 : List V} {ds : List D} (m : RM K H ms ex M) (hp : H p = none) (r : RVs K H ms ex v1 ds) :
    Ext ms H (upd H p (.lst v1)) ∧ RM K (upd H p (.lst v1)) ms ex M ∧ RV K (upd H p (.lst v1)) ms ex (.ref p) (.lst ds) := by
  have sm := same_new (o := .lst v1) hp
  obtain ⟨n1, n2⟩ := fresh_ms m hp
  exact ⟨Ext.of sm, m.same sm, .lst upd_same n1 n2 (r.ext m (Ext.of sm))⟩
theorem new_tup {p : Addr} {v1 : List V} {ds : List D} (m : RM K H ms ex M) (hp : H p = none) (r : RVs K H ms ex v1 ds) :
    Ext ms H (upd H p (.tup v1)) ∧ RM K (upd H p (.tup v1)) ms ex M ∧ RV K (upd H p (.tup v1)) ms ex (.ref p) (.tup ds) := by
  have sm := same_new (o := .tup v1) hp
  exact ⟨Ext.of sm, m.same sm, .tup (SqT.of upd_same) (r.ext m (Ext.of sm))⟩
theorem me_lst (h : PA X es (aM X.K fa)) (hn : ∀ r M ds M', fa r M = some (ds, M') → ds.length ≤ 1000) : PE X (.List es pos) (eM X.K (mLst fa)) :=
  (pe_lst h).weak fun σ H Q h => by
    obtain ⟨ms, ex, r, M, d', M', m, s, e, q⟩ := h
    unfold mLst at e
    split at e
    · rename_i ds M1 h1
      cases e
      refine aM.use m s h1 fun H1 v1 x1 m1 s1 r1 => ⟨r1.small (hn _ _ _ _ h1), fun p hp => ?_⟩
      obtain ⟨e1, m2, r2⟩ := new_lst m1 hp r1
      exact q _ _ (x1.trans e1) m2 r2
    · cases e
theorem ln_nil : ∀ r M ds M', mNil r M = some (ds, M') → ds.length ≤ 0 := by
  intro r M ds M' h
  cases h
  exact Nat.le_refl _
theorem ln_cons {n : Nat} (h : ∀ r M ds M', fa r M = some (ds, M') → ds.length ≤ n) : ∀ r M ds M', mCons f fa r M = some (ds, M') → ds.length ≤ n + 1 := by
  intro r M ds M' e
  unfold mCons at e
  split at e
  · split at e
    · rename_i h2
      cases e
      exact Nat.succ_le_succ (h _ _ _ _ h2)
    · cases e
  · cases e

/-! ### operators -/
theorem mt_op {r : R2} {o : MM → D → D → Option D} (hs : OpS X.K r o) (ha : PE X a (eM X.K f)) {σ : L2.St} {Q : VK} (h : eM X.K (mOp o f g) σ H Q) : tOp r (eM X.K f) (eM X.K g) σ H Q := by
  obtain ⟨ms, ex, r, M, d', M', m, s, e, q⟩ := h
  unfold mOp at e
  split at e
  · rename_i x M1 h1
    split at e
    · rename_i y M2 h2
      split at e
      · rename_i z h3
        cases e
        refine eM.use m s h1 fun H1 v1 x1 m1 s1 r1 => ?_
        refine eM.use m1 s1 h2 fun H2 v2 x2 m2 s2 r2 => ?_
        refine hs H2 ms ex _ v1 v2 x y _ Q m2 (r1.ext m1 x2) r2 h3 fun H3 v3 x3 m3 r3 => ?_
        exact q H3 v3 ((x1.trans x2).trans x3) m3 r3
      · cases e
    · cases e
  · cases e
theorem me_op {op : Operator} {r : R2} {o : MM → D → D → Option D} (ho : OpR X (binaryOp op) r) (hs : OpS X.K r o) (ha : PE X a (eM X.K f)) (hb : PE X b (eM X.K g)) : PE X (.BinOp a op b pos) (eM X.K (mOp o f g)) :=
  (pe_op ho ha hb).weak fun _ _ _ h => mt_op hs ha h
theorem me_cmp {op : CmpOp} {r : R2} {o : MM → D → D → Option D} (ho : OpR X (compareOp op) r) (hs : OpS X.K r o) (ha : PE X a (eM X.K f)) (hb : PE X b (eM X.K g)) (hm : behindInMarks op b = false) : PE X (.Compare a [op] [b] pos) (eM X.K (mOp o f g)) :=
  (pe_cmpR ho ha hb hm).weak fun _ _ _ h => mt_op hs ha h
theorem mt_b {σ : L2.St} {Q : Bool → Hp → Prop} (h : bM K (mB f) σ H Q) : eM K f σ H fun x H' => ∃ k, x = .bl k ∧ Q k H' := by
  obtain ⟨ms, ex, r, M, d', M', m, s, e, q⟩ := h
  unfold mB at e
  split at e
  · rename_i b M1 h1
    cases e
    refine eM.use m s h1 fun H1 v1 x1 m1 s1 r1 => ?_
    cases r1
    exact ⟨_, rfl, q H1 x1 m1⟩
  · cases e
theorem mp_cmp {op : CmpOp} {r : R2} {o : MM → D → D → Option D} (ho : OpR X (compareOp op) r) (hs : OpS X.K r o) (ha : PE X a (eM X.K f)) (hb : PE X b (eM X.K g)) (hm : behindInMarks op b = false) : PT X (.Compare a [op] [b] pos) (bM X.K (mB (mOp o f g))) :=
  (pt_cmpR ho ha hb hm).weak fun _ _ _ h => mt_op hs ha (mt_b h)
theorem me_un {op : UnaryOp} {r : V → Hp → VK → Prop} {o : D → Option D} (ho : UnR X (unaryOp op) r) (hs : UnS X.K r o) (ha : PE X a (eM X.K f)) : PE X (.UnaryOp op a pos) (eM X.K (mUn o f)) :=
  (pe_un ho ha).weak fun σ H Q h => by
    obtain ⟨ms, ex, r, M, d', M', m, s, e, q⟩ := h
    unfold mUn at e
    split at e
    · rename_i x M1 h1
      split at e
      · rename_i z h3
        cases e
        refine eM.use m s h1 fun H1 v1 x1 m1 s1 r1 => ?_
        exact hs H1 ms ex _ v1 x _ Q m1 r1 h3 fun H3 v3 x3 m3 r3 => q H3 v3 (x1.trans x3) m3 r3
      · cases e
    · cases e
theorem me_ix {r : R2} {o : MM → D → D → Option D} (hr : IxR X r) (hs : OpS X.K r o) (ha : PE X a (eM X.K f)) (hb : PE X b (eM X.K g)) (hp : PlainIx b) : PE X (.Subscript a b pos) (eM X.K (mOp o f g)) :=
  (pe_ix hr ha hb hp).weak fun _ _ _ h => mt_op hs ha h

/-! ### and, or, not, if -/
theorem me_and {rest : List Expr} (ha : PE X a (eM X.K f)) (hb : PE X (.BoolOp .And (b :: rest) pos) (eM X.K g)) : PE X (.BoolOp .And (a :: b :: rest) pos) (eM X.K (mAnd f g)) :=
  (pe_and ha hb).weak fun σ H Q h => by
    obtain ⟨ms, ex, r, M, d', M', m, s, e, q⟩ := h
    unfold mAnd at e
    split at e
    · rename_i M1 h1
      refine eM.use m s h1 fun H1 v1 x1 m1 s1 r1 => ?_
      cases r1
      exact ⟨true, rfl, iteT (eM.use m1 s1 e fun H2 v2 x2 m2 _ r2 => q H2 v2 (x1.trans x2) m2 r2)⟩
    · rename_i M1 h1
      cases e
      refine eM.use m s h1 fun H1 v1 x1 m1 s1 r1 => ?_
      cases r1
      exact ⟨false, rfl, iteF (q H1 _ x1 m1 (.bl false))⟩
    · cases e
theorem me_or {rest : List Expr} (ha : PE X a (eM X.K f)) (hb : PE X (.BoolOp .Or (b :: rest) pos) (eM X.K g)) : PE X (.BoolOp .Or (a :: b :: rest) pos) (eM X.K (mOr f g)) :=
  (pe_or ha hb).weak fun σ H Q h => by
    obtain ⟨ms, ex, r, M, d', M', m, s, e, q⟩ := h
    unfold mOr at e
    split at e
    · rename_i M1 h1
      cases e
      refine eM.use m s h1 fun H1 v1 x1 m1 s1 r1 => ?_
      cases r1
      exact ⟨true, rfl, iteT (q H1 _ x1 m1 (.bl true))⟩
    · rename_i M1 h1
      refine eM.use m s h1 fun H1 v1 x1 m1 s1 r1 => ?_
      cases r1
      exact ⟨false, rfl, iteF (eM.use m1 s1 e fun H2 v2 x2 m2 _ r2 => q H2 v2 (x1.trans x2) m2 r2)⟩
    · cases e
theorem me_one {op} (h : PE X a (eM X.K f)) : PE X (.BoolOp op [a] pos) (eM X.K f) := pe_one h
theorem me_not (ha : PE X a (eM X.K f)) : PE X (.UnaryOp .Not a pos) (eM X.K (mNot f)) :=
  (pe_not ha).weak fun σ H Q h => by
    obtain ⟨ms, ex, r, M, d', M', m, s, e, q⟩ := h
    unfold mNot at e
    split at e
    · rename_i b M1 h1
      cases e
      refine eM.use m s h1 fun H1 v1 x1 m1 s1 r1 => ?_
      cases r1
      exact ⟨_, rfl, q H1 _ x1 m1 (.bl _)⟩
    · cases e
/-- tests -/
theorem mp_val (h : PE X a (eM X.K f)) (he : ∀ whole, isTrue a X.env whole = (do let v ← whole; standAt a.pos; holding [v] (truthy v)) := by intro _; rfl) : PT X a (bM X.K (mB f)) :=
  (pt_val h he).weak fun _ _ _ h => mt_b h
theorem mw_and1 (ha : PT X a (bM X.K (mB f))) : PW X (.BoolOp .And [a] pos) (bM X.K (mB f)) := pw_and1 ha
theorem mw_or1 (ha : PT X a (bM X.K (mB f))) : PW X (.BoolOp .Or [a] pos) (bM X.K (mB f)) := pw_or1 ha
theorem mw_and {rest : List Expr} (ha : PT X a (bM X.K (mB f))) (hb : PW X (.BoolOp .And (b :: rest) pos) (bM X.K (mB g))) : PW X (.BoolOp .And (a :: b :: rest) pos) (bM X.K (mB (mAnd f g))) :=
  (pw_and ha hb).weak fun σ H Q h => by
    obtain ⟨ms, ex, r, M, d', M', m, s, e, q⟩ := h
    unfold mB mAnd at e
    split at e
    · rename_i b M1 h0
      cases e
      split at h0
      · rename_i M2 h1
        refine bM.use m s (by unfold mB; rw [h1]) fun H1 x1 m1 s1 => iteT ?_
        exact bM.use m1 s1 (by unfold mB; rw [h0]) fun H2 x2 m2 s2 => q H2 (x1.trans x2) m2
      · rename_i M2 h1
        cases h0
        refine bM.use m s (by unfold mB; rw [h1]) fun H1 x1 m1 s1 => iteF (q H1 x1 m1)
      · cases h0
    · cases e
theorem mw_or {rest : List Expr} (ha : PT X a (bM X.K (mB f))) (hb : PW X (.BoolOp .Or (b :: rest) pos) (bM X.K (mB g))) : PW X (.BoolOp .Or (a :: b :: rest) pos) (bM X.K (mB (mOr f g))) :=
  (pw_or ha hb).weak fun σ H Q h => by
    obtain ⟨ms, ex, r, M, d', M', m, s, e, q⟩ := h
    unfold mB mOr at e
    split at e
    · rename_i b M1 h0
      cases e
      split at h0
      · rename_i M2 h1
        cases h0
        refine bM.use m s (by unfold mB; rw [h1]) fun H1 x1 m1 s1 => iteT (q H1 x1 m1)
      · rename_i M2 h1
        refine bM.use m s (by unfold mB; rw [h1]) fun H1 x1 m1 s1 => iteF ?_
        exact bM.use m1 s1 (by unfold mB; rw [h0]) fun H2 x2 m2 s2 => q H2 (x1.trans x2) m2
      · cases h0
    · cases e
theorem mp_not (ha : PT X a (bM X.K (mB f))) : PT X (.UnaryOp .Not a pos) (bM X.K (mB (mNot f))) :=
  (pt_not ha).weak fun σ H Q h => by
    obtain ⟨ms, ex, r, M, d', M', m, s, e, q⟩ := h
    unfold mB mNot at e
    split at e
    · rename_i b M1 h0
      cases e
      split at h0
      · rename_i c M2 h1
        cases h0
        exact bM.use m s (by unfold mB; rw [h1]) fun H1 x1 m1 s1 => q H1 x1 m1
      · cases h0
    · cases e
theorem me_if (hc : PT X c (bM X.K (mB f))) (ha : PE X a (eM X.K g)) (hb : PE X b (eM X.K h)) : PE X (.IfExp c a b pos) (eM X.K (mIf f g h)) :=
  (pe_ifExp hc ha hb).weak fun σ H Q h => by
    obtain ⟨ms, ex, r, M, d', M', m, s, e, q⟩ := h
    unfold mIf at e
    split at e
    · rename_i M1 h1
      refine bM.use m s (by unfold mB; rw [h1]) fun H1 x1 m1 s1 => iteT ?_
      exact eM.use m1 s1 e fun H2 v2 x2 m2 _ r2 => q H2 v2 (x1.trans x2) m2 r2
    · rename_i M1 h1
      refine bM.use m s (by unfold mB; rw [h1]) fun H1 x1 m1 s1 => iteF ?_
      exact eM.use m1 s1 e fun H2 v2 x2 m2 _ r2 => q H2 v2 (x1.trans x2) m2 r2
    · cases e

/-! ### a chain -/
theorem mt_chain {r r' : R2} {o o' : MM → D → D → Option D} (hs : OpS K r o) (hs' : OpS K r' o') {σ : L2.St} {Q : VK} (hh : eM K (mChain o o' f g h) σ H Q) : tChain r r' (eM K f) (eM K g) (eM K h) σ H Q := by
  obtain ⟨ms, ex, r, M, d', M', m, s, e, q⟩ := hh
  unfold mChain at e
  split at e
  · rename_i x M1 h1
    split at e
    · rename_i y M2 h2
      refine eM.use m s h1 fun H1 v1 x1 m1 s1 r1 => ?_
      refine eM.use m1 s1 h2 fun H2 v2 x2 m2 s2 r2 => ?_
      split at e
      · rename_i h3
        refine hs H2 ms ex _ v1 v2 x y _ _ m2 (r1.ext m1 x2) r2 h3 fun H3 v3 x3 m3 r3 => ?_
        cases r3
        refine ⟨true, rfl, iteT ?_⟩
        split at e
        · rename_i z M3 h4
          split at e
          · rename_i b h5
            cases e
            refine eM.use m3 (s2.ext m2 x3) h4 fun H4 v4 x4 m4 s4 r4 => ?_
            refine hs' H4 ms ex _ v2 v4 y z _ Q m4 ((r2.ext m2 x3).ext m3 x4) r4 h5 fun H5 v5 x5 m5 r5 => ?_
            exact q H5 v5 ((((x1.trans x2).trans x3).trans x4).trans x5) m5 r5
          · cases e
        · cases e
      · rename_i h3
        cases e
        refine hs H2 ms ex _ v1 v2 x y _ _ m2 (r1.ext m1 x2) r2 h3 fun H3 v3 x3 m3 r3 => ?_
        cases r3
        exact ⟨false, rfl, iteF (q H3 _ ((x1.trans x2).trans x3) m3 (.bl false))⟩
      · cases e
    · cases e
  · cases e
theorem me_chain {op op' : CmpOp} {r r' : R2} {o o' : MM → D → D → Option D} (ho : OpR X (compareOp op) r) (ho' : OpR X (compareOp op') r') (hs : OpS X.K r o) (hs' : OpS X.K r' o') (ha : PE X a (eM X.K f)) (hb : PE X b (eM X.K g)) (hc : PE X c (eM X.K h))
    (hm : lastMarks [op, op'] [b, c] = false) : PE X (.Compare a [op, op'] [b, c] pos) (eM X.K (mChain o o' f g h)) :=
  (pe_chain ho ho' ha hb hc hm).weak fun _ _ _ h => mt_chain hs hs' h
theorem mp_chain {op op' : CmpOp} {r r' : R2} {o o' : MM → D → D → Option D} (ho : OpR X (compareOp op) r) (ho' : OpR X (compareOp op') r') (hs : OpS X.K r o) (hs' : OpS X.K r' o') (ha : PE X a (eM X.K f)) (hb : PE X b (eM X.K g)) (hc : PE X c (eM X.K h))
    (hm : lastMarks [op, op'] [b, c] = false) : PT X (.Compare a [op, op'] [b, c] pos) (bM X.K (mB (mChain o o' f g h))) :=
  (pt_chain ho ho' ha hb hc hm).weak fun _ _ _ h => mt_chain hs hs' (mt_b h)
end
end ML

/-! ML3: operators, built-in functions, calls. -/
namespace ML
open PySem PySem.Spec PyProof.Rows L2
variable {K : PySem.W.Frag} {H H' H1 : Hp} {ms ms' ex ex' : List Addr} {M M' M1 : MM}

theorem OpS.or {r r' : R2} {o o' : MM → D → D → Option D} (h : OpS K r o) (h' : OpS K r' o') : OpS K (fun x y H Q => r x y H Q ∨ r' x y H Q) (fun M x y => match o M x y with | some z => some z | none => o' M x y) := by
  intro H ms ex M v u x y z Q m rv ru e q
  simp only at e
  split at e
  · rename_i z' h1
    cases e
    exact .inl (h H ms ex M v u x y _ Q m rv ru h1 q)
  · exact .inr (h' H ms ex M v u x y z Q m rv ru e q)

/-! ### + - * // % -/
def oAddI (_ : MM) : D → D → Option D
  | .int i, .int j => some (.int (i + j))
  | _, _ => none
def oAddT (_ : MM) : D → D → Option D
  | .tup xs, .tup ys => if xs.length + ys.length ≤ 1000 then some (.tup (xs ++ ys)) else none
  | _, _ => none
def oAddL (_ : MM) : D → D → Option D
  | .lst xs, .lst ys => if xs.length + ys.length ≤ 1000 then some (.lst (xs ++ ys)) else none
  | _, _ => none
def oAdd (M : MM) : D → D → Option D
  | .int i, .int j => some (.int (i + j))
  | .tup xs, .tup ys => if xs.length + ys.length ≤ 1000 then some (.tup (xs ++ ys)) else none
  | .lst xs, .lst ys => if xs.length + ys.length ≤ 1000 then some (.lst (xs ++ ys)) else none
  | _, _ => none
def rAddA (K : PySem.W.Frag) : R2 := fun x y H Q => (rI0 (fun i j => .int (i + j)) x y H Q ∨ rCatA K x y H Q) ∨ rCat x y H Q
theorem op_addA {X : Cx} : OpR X (binaryOp .Add) (rAddA X.K) := (op_add.or op_catA).or op_cat
theorem s_add : OpS K (rAddA K) oAdd := by
  intro H ms ex M v u x y z Q m rv ru e q
  unfold oAdd at e
  split at e
  · cases e
    cases rv
    cases ru
    exact .inl (.inl ⟨_, _, rfl, rfl, q H _ (Ext.refl H) m (.int _)⟩)
  · rename_i xs ys
    split at e
    · rename_i hl
      cases e
      cases rv with
      | tup s1 r1 =>
        cases ru with
        | tup s2 r2 =>
          rename_i a vs b us
          refine .inl (.inr ⟨_, _, _, _, rfl, rfl, s1, s2, ?_, fun e => ?_, fun e1 e2 => ?_, fun e1 e2 p hp => ?_⟩)
          · rw [r1.length, r2.length]
            exact Nat.le_of_lt (small1000 hl)
          · subst e
            cases r1
            exact q H _ (Ext.refl H) m (.tup s2 r2)
          · subst e2
            cases r2
            rw [List.append_nil] at q
            exact q H _ (Ext.refl H) m (.tup s1 r1)
          · obtain ⟨e3, m3, r3⟩ := new_tup m hp (r1.append r2)
            exact q _ _ e3 m3 r3
    · cases e
  · rename_i xs ys
    split at e
    · rename_i hl
      cases e
      cases rv with
      | lst s1 n1 n2 r1 =>
        cases ru with
        | lst s2 n3 n4 r2 =>
          refine .inr ⟨_, _, _, _, rfl, rfl, s1, s2, ?_, fun p hp => ?_⟩
          · rw [r1.length, r2.length]
            exact Nat.le_of_lt (small1000 hl)
          · obtain ⟨e3, m3, r3⟩ := new_lst m hp (r1.append r2)
            exact q _ _ e3 m3 r3
    · cases e
  · cases e
def oI (g : Int → Int → Option D) (_ : MM) : D → D → Option D
  | .int i, .int j => g i j
  | _, _ => none
def oSub := oI fun i j => some (.int (i - j))
theorem s_sub : OpS K (rI0 fun i j => .int (i - j)) oSub := by
  intro H ms ex M v u x y z Q m rv ru e q
  unfold oSub oI at e
  split at e
  · cases e
    cases rv
    cases ru
    exact ⟨_, _, rfl, rfl, q H _ (Ext.refl H) m (.int _)⟩
  · cases e
def oMul (_ : MM) : D → D → Option D
  | .int i, .int j => if i.natAbs < 18446744073709551616 ∨ j.natAbs < 18446744073709551616 then some (.int (i * j)) else none
  | .tup (x :: xs), .int k => if 2 ≤ k ∧ k ≤ 1000 ∧ xs.length < 1000 then some (.tup (List.replicate k.toNat (x :: xs)).flatten) else none
  | .lst xs, .int k => if 0 ≤ k ∧ k ≤ 1000 ∧ xs.length ≤ 1000 then some (.lst (List.replicate k.toNat xs).flatten) else none
  | _, _ => none
def rMulA (K : PySem.W.Frag) : R2 := fun x y H Q => (rI CMul (fun i j => .int (i * j)) x y H Q ∨ rRepT K x y H Q) ∨ rRep x y H Q
theorem op_mulA {X : Cx} : OpR X (binaryOp .Mult) (rMulA X.K) := (op_mul.or op_repT).or op_rep
theorem s_mul : OpS K (rMulA K) oMul := by
  intro H ms ex M v u x y z Q m rv ru e q
  unfold oMul at e
  split at e
  · split at e
    · rename_i hc
      cases e
      cases rv
      cases ru
      exact .inl (.inl ⟨_, _, rfl, rfl, (by unfold CMul; omega), q H _ (Ext.refl H) m (.int _)⟩)
    · cases e
  · split at e
    · rename_i hc
      cases e
      cases ru
      cases rv with
      | tup s1 r1 =>
        have hl := r1.length
        simp only [List.length_cons] at hl
        refine .inl (.inr ⟨_, _, _, rfl, rfl, s1, fun z => ?_, hc.1, hc.2.1, by omega, fun p hp => ?_⟩)
        · rw [z] at hl
          simp at hl
        · obtain ⟨e3, m3, r3⟩ := new_tup m hp (r1.rep _)
          exact q _ _ e3 m3 r3
    · cases e
  · rename_i xs k
    split at e
    · rename_i hc
      cases e
      cases ru
      cases rv with
      | lst s1 n1 n2 r1 =>
        rename_i vs
        have hl := r1.length
        refine .inr ⟨_, _, _, rfl, rfl, s1, by omega, by omega, ?_, fun p hp => ?_⟩
        · have h1 : vs.length * k.toNat ≤ 1000 * 1000 := Nat.mul_le_mul (by omega) (by omega)
          exact Nat.le_trans h1 (by decide)
        · obtain ⟨e3, m3, r3⟩ := new_lst m hp (r1.rep _)
          exact q _ _ e3 m3 r3
    · cases e
  · cases e
def oMod := oI fun i j => if 0 < j then some (.int (i % j)) else none
theorem s_mod : OpS K (rI (fun _ j => 0 < j) fun i j => .int (i % j)) oMod := by
  intro H ms ex M v u x y z Q m rv ru e q
  unfold oMod oI at e
  split at e
  · dsimp only at e
    split at e
    · rename_i hc
      cases e
      cases rv
      cases ru
      exact ⟨_, _, rfl, rfl, hc, q H _ (Ext.refl H) m (.int _)⟩
    · cases e
  · cases e
def oDiv := oI fun i j => if 0 < j ∧ j < 1073741824 then some (.int (i / j)) else none
theorem s_div : OpS K (rI CDiv fun i j => .int (i / j)) oDiv := by
  intro H ms ex M v u x y z Q m rv ru e q
  unfold oDiv oI at e
  split at e
  · dsimp only at e
    split at e
    · rename_i hc
      cases e
      cases rv
      cases ru
      exact ⟨_, _, rfl, rfl, hc, q H _ (Ext.refl H) m (.int _)⟩
    · cases e
  · cases e
def oPow := oI fun i j => if 0 ≤ j ∧ j ≤ 1000000 ∧ i.natAbs < 2 ^ 64 then some (.int (i ^ j.toNat)) else none
theorem s_pow : OpS K (rI CPow fun i j => .int (i ^ j.toNat)) oPow := by
  intro H ms ex M v u x y z Q m rv ru e q
  unfold oPow oI at e
  split at e
  · dsimp only at e
    split at e
    · rename_i hc
      cases e
      cases rv
      cases ru
      exact ⟨_, _, rfl, rfl, hc, q H _ (Ext.refl H) m (.int _)⟩
    · cases e
  · cases e
def oNeg : D → Option D
  | .int i => some (.int (-i))
  | _ => none
theorem s_neg : UnS K (rU fun i => .int (-i)) oNeg := by
  intro H ms ex M v x z Q m rv e q
  unfold oNeg at e
  split at e
  · cases e
    cases rv
    exact ⟨_, rfl, q H _ (Ext.refl H) m (.int _)⟩
  · cases e

/-! ### order of ints -/
def oCmp (p : Int → Int → Bool) := oI fun i j => some (.bl (p i j))
theorem s_cmp {p : Int → Int → Bool} : OpS K (rI0 fun i j => .bl (p i j)) (oCmp p) := by
  intro H ms ex M v u x y z Q m rv ru e q
  unfold oCmp oI at e
  split at e
  · cases e
    cases rv
    cases ru
    exact ⟨_, _, rfl, rfl, q H _ (Ext.refl H) m (.bl _)⟩
  · cases e
def oLt := oCmp fun i j => decide (i < j)
def oLe := oCmp fun i j => decide (i ≤ j)
def oGt := oCmp fun i j => decide (j < i)
def oGe := oCmp fun i j => decide (j ≤ i)
theorem s_lt : OpS K (rI0 fun i j => .bl (decide (i < j))) oLt := s_cmp
theorem s_le : OpS K (rI0 fun i j => .bl (decide (i ≤ j))) oLe := s_cmp
theorem s_gt : OpS K (rI0 fun i j => .bl (decide (j < i))) oGt := s_cmp
theorem s_ge : OpS K (rI0 fun i j => .bl (decide (j ≤ i))) oGe := s_cmp

/-! ### == at any depth -/
mutual
def py : D → PyData
  | .non => .none
  | .bl b => .bool b
  | .int i => .int i
  | .str x => .str x
  | .tup xs => .tuple (pys xs)
  | .lst xs => .list (pys xs)
  | .mu _ => .none
  | .fz xs => .list (pys xs)
def pys : List D → List PyData
  | [] => []
  | d :: ds => py d :: pys ds
end
mutual
/-- no list in it that may change -/
def pure : D → Bool
  | .mu _ => false
  | .tup xs => pures xs
  | .lst xs => pures xs
  | .fz xs => pures xs
  | _ => true
def pures : List D → Bool
  | [] => true
  | d :: ds => pure d && pures ds
end
mutual
theorem RV.dp : ∀ {v : V} {d : D}, RV K H ms ex v d → pure d = true → Dp K H v (py d)
  | _, _, .non, _ => .non
  | _, _, .bl b, _ => .bl b
  | _, _, .int i, _ => .int i
  | _, _, .str x, _ => .str x
  | _, _, .tup s r, h => .tup s (RVs.dp r h)
  | _, _, .lst s _ _ r, h => .lst (SqL.of s) (RVs.dp r h)
  | _, _, .fz s r, h => .lst s.sq (RVs.dp r h)
  | _, _, .mu _, h => by cases h
theorem RVs.dp : ∀ {v : List V} {d : List D}, RVs K H ms ex v d → pures d = true → DpAll K H v (pys d)
  | _, _, .nil, _ => .nil
  | _, _, .cons a b, h => .cons (RV.dp a (Bool.and_eq_true_iff.mp h).1) (RVs.dp b (Bool.and_eq_true_iff.mp h).2)
end
def okD (d : D) : Bool := pure d && SeqAt.shaped (py d)
def oEqv (d e : D) : Bool := PyData.eqv (py d) (py e)
def oEq (_ : MM) : D → D → Option D
  | .int i, .int j => some (.bl (i == j))
  | .str i, .str j => some (.bl (i == j))
  | .bl i, .bl j => some (.bl (i == j))
  | x, y => if okD x && okD y then some (.bl (oEqv x y)) else none
def oNe (M : MM) (x y : D) : Option D := match oEq M x y with
  | some (.bl b) => some (.bl (!b))
  | _ => none
def rEqA (K : PySem.W.Frag) : R2 := fun x y H Q => rEq x y H Q ∨ rEqD K x y H Q
def rNeA (K : PySem.W.Frag) : R2 := fun x y H Q => rNe x y H Q ∨ rNeD K x y H Q
theorem op_eqA {X : Cx} (hu : X.A.units + 64 < cLine) : OpR X (compareOp .Eq) (rEqA X.K) := op_eq.or (op_eqD hu)
theorem op_neA {X : Cx} (hu : X.A.units + 64 < cLine) : OpR X (compareOp .NotEq) (rNeA X.K) := op_ne.or (op_neD hu)
theorem oEq_cases {v u : V} {x y z : D} (m : RM K H ms ex M) (rv : RV K H ms ex v x) (ru : RV K H ms ex u y) (e : oEq M x y = some z) :
    ∃ b, z = .bl b ∧ ((scal v u = true ∧ decide (v = u) = b) ∨ ∃ d e', Dp K H v d ∧ Dp K H u e' ∧ SeqAt.shaped d = true ∧ SeqAt.shaped e' = true ∧ PyData.eqv d e' = b) := by
  unfold oEq at e
  split at e
  · cases e
    cases rv
    cases ru
    exact ⟨_, rfl, .inl ⟨rfl, dec_int⟩⟩
  · cases e
    cases rv
    cases ru
    exact ⟨_, rfl, .inl ⟨rfl, dec_str⟩⟩
  · cases e
    cases rv
    cases ru
    exact ⟨_, rfl, .inl ⟨rfl, dec_bl⟩⟩
  · split at e
    · rename_i h
      cases e
      obtain ⟨h1, h2⟩ := Bool.and_eq_true_iff.mp h
      obtain ⟨a1, a2⟩ := Bool.and_eq_true_iff.mp h1
      obtain ⟨b1, b2⟩ := Bool.and_eq_true_iff.mp h2
      exact ⟨_, rfl, .inr ⟨_, _, rv.dp a1, ru.dp b1, a2, b2, rfl⟩⟩
    · cases e
theorem s_eq : OpS K (rEqA K) oEq := by
  intro H ms ex M v u x y z Q m rv ru e q
  obtain ⟨b, rfl, h⟩ := oEq_cases m rv ru e
  have q' := q H (.bl b) (Ext.refl H) m (.bl b)
  rcases h with ⟨h1, h2⟩ | ⟨d, e', h1, h2, h3, h4, h5⟩
  · exact .inl ⟨h1, by rw [h2]; exact q'⟩
  · exact .inr ⟨d, e', h1, h2, h3, h4, by rw [h5]; exact q'⟩
theorem s_ne : OpS K (rNeA K) oNe := by
  intro H ms ex M v u x y z Q m rv ru e q
  unfold oNe at e
  split at e
  · rename_i b e0
    cases e
    obtain ⟨b', hb, h⟩ := oEq_cases m rv ru e0
    cases hb
    have q' := q H (.bl (!b)) (Ext.refl H) m (.bl _)
    rcases h with ⟨h1, h2⟩ | ⟨d, e', h1, h2, h3, h4, h5⟩
    · exact .inl ⟨h1, by rw [h2]; exact q'⟩
    · exact .inr ⟨d, e', h1, h2, h3, h4, by rw [h5]; exact q'⟩
  · cases e

/-! ### in -/
theorem plain_sh {d : PyData} (h : SeqAt.shaped d = true) : d.plain = true := PyData.plain_of_canLay0 d (SeqAt.canLay_of_shaped h)
def rInT (K : PySem.W.Frag) : R2 := fun x y H Q => ∃ d ds, Dp K H x d ∧ Dp K H y (.tuple ds) ∧ SeqAt.shaped d = true ∧ SeqAt.shaped (.tuple ds) = true ∧ Q (.bl (ds.any fun z => PyData.eqv z d)) H
def rNotInT (K : PySem.W.Frag) : R2 := fun x y H Q => ∃ d ds, Dp K H x d ∧ Dp K H y (.tuple ds) ∧ SeqAt.shaped d = true ∧ SeqAt.shaped (.tuple ds) = true ∧ Q (.bl (!ds.any fun z => PyData.eqv z d)) H
theorem op_inT {X : Cx} (hu : X.A.units + 65 < cLine) : OpR X (compareOp .In) (rInT X.K) := by
  intro pins s σ H x y v u Q I rx ry h
  obtain ⟨d, ds, hd, he, sd, se, q⟩ := h
  obtain ⟨as, r1⟩ := Dp.reads I d x v hd rx
  obtain ⟨bs, r2⟩ := Dp.reads I (.tuple ds) y u he ry
  exact SeqAt.in_tuple_data r2 r1 (PyData.plainAll_of_canLay0 ds (SeqAt.canLay_of_shaped se)) (plain_sh sd) (room_in_shaped sd hu) ⟨.bl _, H, I, rfl, q⟩
theorem op_notInT {X : Cx} (hu : X.A.units + 65 < cLine) : OpR X (compareOp .NotIn) (rNotInT X.K) := by
  intro pins s σ H x y v u Q I rx ry h
  obtain ⟨d, ds, hd, he, sd, se, q⟩ := h
  obtain ⟨as, r1⟩ := Dp.reads I d x v hd rx
  obtain ⟨bs, r2⟩ := Dp.reads I (.tuple ds) y u he ry
  exact SeqAt.notIn_tuple_data r2 r1 (PyData.plainAll_of_canLay0 ds (SeqAt.canLay_of_shaped se)) (plain_sh sd) (room_in_shaped sd hu) ⟨.bl _, H, I, rfl, q⟩
def anyEq (d : D) : List D → Bool
  | [] => false
  | z :: zs => oEqv z d || anyEq d zs
theorem anyEq_eq (d : D) : ∀ ds : List D, ((pys ds).any fun z => PyData.eqv z (py d)) = anyEq d ds
  | [] => rfl
  | z :: zs => by
    show (PyData.eqv (py z) (py d) || (pys zs).any fun z => PyData.eqv z (py d)) = (oEqv z d || anyEq d zs)
    rw [anyEq_eq d zs]
    rfl
def oIn (_ : MM) (x : D) : D → Option D
  | .tup ys => if okD x && okD (.tup ys) then some (.bl (anyEq x ys)) else none
  | .lst ys => if okD x && okD (.lst ys) then some (.bl (anyEq x ys)) else none
  | _ => none
def oNotIn (M : MM) (x y : D) : Option D := match oIn M x y with
  | some (.bl b) => some (.bl (!b))
  | _ => none
def rInA (K : PySem.W.Frag) : R2 := fun x y H Q => rInT K x y H Q ∨ rInD K x y H Q
def rNotInA (K : PySem.W.Frag) : R2 := fun x y H Q => rNotInT K x y H Q ∨ rNotInD K x y H Q
theorem op_inA {X : Cx} (hu : X.A.units + 65 < cLine) : OpR X (compareOp .In) (rInA X.K) := (op_inT hu).or (op_inD hu)
theorem op_notInA {X : Cx} (hu : X.A.units + 65 < cLine) : OpR X (compareOp .NotIn) (rNotInA X.K) := (op_notInT hu).or (op_notInD hu)
theorem s_in : OpS K (rInA K) oIn := by
  intro H ms ex M v u x y z Q m rv ru e q
  unfold oIn at e
  split at e <;> try split at e
  · rename_i ys h
    cases e
    obtain ⟨h1, h2⟩ := Bool.and_eq_true_iff.mp h
    obtain ⟨a1, a2⟩ := Bool.and_eq_true_iff.mp h1
    obtain ⟨b1, b2⟩ := Bool.and_eq_true_iff.mp h2
    exact .inl ⟨_, _, rv.dp a1, ru.dp b1, a2, b2, by rw [anyEq_eq]; exact q H _ (Ext.refl H) m (.bl _)⟩
  · cases e
  · rename_i ys h
    cases e
    obtain ⟨h1, h2⟩ := Bool.and_eq_true_iff.mp h
    obtain ⟨a1, a2⟩ := Bool.and_eq_true_iff.mp h1
    obtain ⟨b1, b2⟩ := Bool.and_eq_true_iff.mp h2
    exact .inr ⟨_, _, rv.dp a1, ru.dp b1, a2, b2, by rw [anyEq_eq]; exact q H _ (Ext.refl H) m (.bl _)⟩
  · cases e
  · cases e
theorem s_notIn : OpS K (rNotInA K) oNotIn := by
  intro H ms ex M v u x y z Q m rv ru e q
  unfold oNotIn oIn at e
  split at e
  · rename_i b e0
    cases e
    split at e0 <;> try split at e0
    · rename_i ys h
      cases e0
      obtain ⟨h1, h2⟩ := Bool.and_eq_true_iff.mp h
      obtain ⟨a1, a2⟩ := Bool.and_eq_true_iff.mp h1
      obtain ⟨b1, b2⟩ := Bool.and_eq_true_iff.mp h2
      exact .inl ⟨_, _, rv.dp a1, ru.dp b1, a2, b2, by rw [anyEq_eq]; exact q H _ (Ext.refl H) m (.bl _)⟩
    · cases e0
    · rename_i ys h
      cases e0
      obtain ⟨h1, h2⟩ := Bool.and_eq_true_iff.mp h
      obtain ⟨a1, a2⟩ := Bool.and_eq_true_iff.mp h1
      obtain ⟨b1, b2⟩ := Bool.and_eq_true_iff.mp h2
      exact .inr ⟨_, _, rv.dp a1, ru.dp b1, a2, b2, by rw [anyEq_eq]; exact q H _ (Ext.refl H) m (.bl _)⟩
    · cases e0
    · cases e0
  · cases e

/-! ### is -/
def isNon : D → Bool
  | .non => true
  | _ => false
theorem RV.isNon {v : V} {d : D} (h : RV K H ms ex v d) : decide (v = .non) = isNon d := by cases h <;> rfl
def oIs (_ : MM) : D → D → Option D
  | x, .non => some (.bl (isNon x))
  | .bl a, .bl b => some (.bl (a == b))
  | _, _ => none
def oIsNot (M : MM) (x y : D) : Option D := match oIs M x y with
  | some (.bl b) => some (.bl (!b))
  | _ => none
def rIsA : R2 := fun x y H Q => (y = .non ∧ Q (.bl (decide (x = .non))) H) ∨ rIsB x y H Q
def rIsNotA : R2 := fun x y H Q => (y = .non ∧ Q (.bl (!decide (x = .non))) H) ∨ rNotB x y H Q
theorem op_isA {X : Cx} : OpR X (compareOp .Is) rIsA := op_isN.or op_isBl
theorem op_isNotA {X : Cx} : OpR X (compareOp .IsNot) rIsNotA := op_notN.or op_notBl
theorem s_is : OpS K rIsA oIs := by
  intro H ms ex M v u x y z Q m rv ru e q
  unfold oIs at e
  split at e
  · cases e
    cases ru
    exact .inl ⟨rfl, by rw [rv.isNon]; exact q H _ (Ext.refl H) m (.bl _)⟩
  · cases e
    cases ru
    cases rv
    exact .inr ⟨_, _, rfl, rfl, by rw [Bool.beq_eq_decide_eq] at q; exact q H _ (Ext.refl H) m (.bl _)⟩
  · cases e
theorem s_isNot : OpS K rIsNotA oIsNot := by
  intro H ms ex M v u x y z Q m rv ru e q
  unfold oIsNot at e
  split at e
  · rename_i b e0
    cases e
    unfold oIs at e0
    split at e0
    · cases e0
      cases ru
      exact .inl ⟨rfl, by rw [rv.isNon]; exact q H _ (Ext.refl H) m (.bl _)⟩
    · cases e0
      cases ru
      cases rv
      exact .inr ⟨_, _, rfl, rfl, by rw [Bool.beq_eq_decide_eq] at q; exact q H _ (Ext.refl H) m (.bl _)⟩
    · cases e0
  · cases e

/-! ### items, slices -/
def oIx (M : MM) : D → D → Option D
  | .tup xs, .int i => atI xs i
  | .lst xs, .int i => atI xs i
  | .mu n, .int i => (M[n]?).bind fun xs => atI xs i
  | _, _ => none
theorem RVs.atI {vs : List V} {ds : List D} {i : Int} {d : D} (r : RVs K H ms ex vs ds) (e : L2.atI ds i = some d) : ∃ v, L2.atI vs i = some v ∧ RV K H ms ex v d := by
  unfold L2.atI at e ⊢
  rw [r.length]
  cases h : ixN ds.length i with
  | none => rw [h] at e; cases e
  | some j =>
    rw [h] at e
    exact r.get e
def rIxA (K : PySem.W.Frag) : R2 := fun x y H Q => rIxL K x y H Q ∨ rIxT K x y H Q
theorem ix_A {X : Cx} : IxR X (rIxA X.K) := ix_list.or ix_tup
theorem s_ix : OpS K (rIxA K) oIx := by
  intro H ms ex M v u x y z Q m rv ru e q
  unfold oIx at e
  split at e
  · cases ru
    cases rv with
    | tup s r =>
      obtain ⟨w, h1, h2⟩ := r.atI e
      exact .inr ⟨_, _, _, _, rfl, rfl, s, h1, q H _ (Ext.refl H) m h2⟩
  · cases ru
    cases rv with
    | lst s n1 n2 r =>
      obtain ⟨w, h1, h2⟩ := r.atI e
      exact .inl ⟨_, _, _, _, rfl, rfl, SqL.of s, h1, q H _ (Ext.refl H) m h2⟩
  · rename_i n i
    cases ru
    cases rv with
    | mu e1 =>
      cases h : M[n]? with
      | none => rw [h] at e; cases e
      | some xs =>
        rw [h] at e
        obtain ⟨vs, s, r⟩ := m.at_ _ _ _ e1 h
        obtain ⟨w, h1, h2⟩ := r.atI e
        exact .inl ⟨_, _, _, _, rfl, rfl, SqL.of s, h1, q H _ (Ext.refl H) m h2⟩
  · cases e

abbrev FO := En → MM → Option (Option Int × MM)
def oM (K : PySem.W.Frag) (f : FO) : TO := fun σ H Q => ∃ ms ex r M d M', RM K H ms ex M ∧ Sl K H ms ex σ r ∧ f r M = some (d, M') ∧ ∀ H', Ext ms H H' → RM K H' ms ex M' → Q d H'
def mNo : FO := fun _ M => some (none, M)
def mPart (f : FE) : FO := fun r M => match f r M with
  | some (.int i, M1) => some (some i, M1)
  | _ => none
def cutD (xs : List D) (lo hi : Option Int) : List D := (xs.drop (HT.sIx xs.length 0 lo)).take (HT.sIx xs.length xs.length hi - HT.sIx xs.length 0 lo)
theorem RVs.cut {vs : List V} {ds : List D} (r : RVs K H ms ex vs ds) (lo hi : Option Int) : RVs K H ms ex (cutV vs lo hi) (cutD ds lo hi) := by
  unfold cutV cutD
  rw [r.length]
  exact (r.drop _).take _
def oSl (M : MM) (x : D) (lo hi : Option Int) : Option D := match x with
  | .tup xs => some (.tup (cutD xs lo hi))
  | .lst xs => some (.lst (cutD xs lo hi))
  | _ => none
def mSl (f : FE) (g h : FO) : FE := fun r M => match f r M with
  | some (x, M1) => match g r M1 with
    | some (lo, M2) => match h r M2 with
      | some (hi, M3) => match oSl M3 x lo hi with
        | some z => some (z, M3)
        | none => none
      | none => none
    | none => none
  | none => none
section
variable {X : Cx} {pos p2 : Pos} {a b c : Expr} {lo hi : Option Expr} {es : List Expr} {f g h : FE} {fa : FA} {fl fh : FO}
theorem oM.use {σ : L2.St} {r : En} {f : FO} {d : Option Int} {Q : Option Int → Hp → Prop} (m : RM K H ms ex M) (s : Sl K H ms ex σ r) (e : f r M = some (d, M'))
    (q : ∀ H', Ext ms H H' → RM K H' ms ex M' → Sl K H' ms ex σ r → Q d H') : oM K f σ H Q :=
  ⟨ms, ex, r, M, d, M', m, s, e, fun H' x m' => q H' x m' (s.ext m x)⟩
theorem _root_.L2.PO.weak {e : Option Expr} {t t' : TO} (h : PO X e t) (k : ∀ σ H Q, t' σ H Q → t σ H Q) : PO X e t' := ⟨fun pins s σ H Q I q => h.run pins s σ H Q I (k σ H Q q)⟩
theorem mo_no : PO X none (oM X.K mNo) := po_none.weak fun σ H Q h => by
  obtain ⟨ms, ex, r, M, d', M', m, s, e, q⟩ := h
  cases e
  exact q H (Ext.refl H) m
theorem mo_some (h : PE X a (eM X.K f)) : PO X (some a) (oM X.K (mPart f)) := (po_some h).weak fun σ H Q h => by
  obtain ⟨ms, ex, r, M, d', M', m, s, e, q⟩ := h
  unfold mPart at e
  split at e
  · rename_i h1
    cases e
    refine eM.use m s h1 fun H1 v1 x1 m1 s1 r1 => ?_
    cases r1
    exact ⟨_, rfl, q H1 x1 m1⟩
  · cases e
def rSlB (K : PySem.W.Frag) : V → Option Int → Option Int → Hp → VK → Prop := fun x lo hi H Q => rSlA K x lo hi H Q ∨ rSlL K x lo hi H Q
theorem sl_B : SlR X (rSlB X.K) := sl_tupA.or sl_list
theorem cut_whole {xs : List V} {lo hi : Option Int} (h : HT.sIx xs.length 0 lo = 0 ∧ HT.sIx xs.length xs.length hi = xs.length) : cutV xs lo hi = xs := by
  unfold cutV
  rw [h.1, h.2]
  simp
theorem me_sl (he : PE X a (eM X.K f)) (hl : PO X lo (oM X.K fl)) (hu : PO X hi (oM X.K fh)) : PE X (.Subscript a (.Slice lo hi none p2) pos) (eM X.K (mSl f fl fh)) :=
  (pe_slice sl_B he hl hu).weak fun σ H Q h => by
    obtain ⟨ms, ex, r, M, d', M', m, s, e, q⟩ := h
    unfold mSl at e
    split at e
    · rename_i x M1 h1
      split at e
      · rename_i l M2 h2
        split at e
        · rename_i u M3 h3
          split at e
          · rename_i z h4
            cases e
            refine eM.use m s h1 fun H1 v1 x1 m1 s1 r1 => ?_
            refine oM.use m1 s1 h2 fun H2 x2 m2 s2 => ?_
            refine oM.use m2 s2 h3 fun H3 x3 m3 s3 => ?_
            have r3 := (r1.ext m1 x2).ext m2 x3
            have x13 := (x1.trans x2).trans x3
            unfold oSl at h4
            split at h4
            · cases h4
              cases r3 with
              | tup sq rr =>
                rename_i vs
                refine .inl ⟨_, _, rfl, sq, fun w => ?_, fun w p hp => ?_⟩
                · refine q H3 _ x13 m3 (.tup sq ?_)
                  have := rr.cut l u
                  rw [cut_whole w] at this
                  exact this
                · obtain ⟨e3, m4, r4⟩ := new_tup m3 hp (rr.cut l u)
                  exact q _ _ (x13.trans e3) m4 r4
            · cases h4
              cases r3 with
              | lst sq n1 n2 rr =>
                refine .inr ⟨_, _, rfl, SqL.of sq, fun p hp => ?_⟩
                obtain ⟨e3, m4, r4⟩ := new_lst m3 hp (rr.cut l u)
                exact q _ _ (x13.trans e3) m4 r4
            · cases h4
          · cases e
        · cases e
      · cases e
    · cases e

/-! ### built-in functions -/
theorem mt_fn {r : List V → Hp → VK → Prop} {o : MM → List D → Option D} (hs : CallS K r o) {σ : L2.St} {Q : VK} (h : eM K (mFn o fa) σ H Q) : tCB r (aM K fa) σ H Q := by
  obtain ⟨ms, ex, r, M, d', M', m, s, e, q⟩ := h
  unfold mFn at e
  split at e
  · rename_i ds M1 h1
    split at e
    · rename_i z h2
      cases e
      refine aM.use m s h1 fun H1 v1 x1 m1 s1 r1 => ?_
      exact hs H1 ms ex _ v1 ds _ Q m1 r1 h2 fun H2 v2 x2 m2 r2 => q H2 v2 (x1.trans x2) m2 r2
    · cases e
  · cases e
theorem me_fn {x : Str} {p : Pos} {id : String} {r : List V → Hp → VK → Prop} {o : MM → List D → Option D} (hc : CallR X (.builtin id) r) (hs : CallS X.K r o) (hg : Gl X x) (hm : X.mg x = none) (hv : bootBuiltins x = some (.builtin id)) (ha : PA X (a :: es) (aM X.K fa))
    (hn : x ≠ "__name__" := by decide) (hdb : (x == ("__debug__" : Str)) = false := by decide)
    (he : starEach (a :: es) X.env = (false, eval a X.env) :: starEach es X.env := by rfl) (hpl : (backTo pos (starEach es X.env)).any (·.1) = false := by rfl) : PE X (.Call (.Name x p) (a :: es) [] pos) (eM X.K (mFn o fa)) :=
  (pe_callB hc hg hm hv ha hn hdb he hpl).weak fun _ _ _ h => mt_fn hs h
theorem me_ty {x : Str} {p : Pos} {T : String} {r : List V → Hp → VK → Prop} {o : MM → List D → Option D} (hc : CallR X (.type T) r) (hs : CallS X.K r o) (hg : Gl X x) (hm : X.mg x = none) (hv : bootBuiltins x = some (.type T)) (ha : PA X (a :: es) (aM X.K fa))
    (hn : x ≠ "__name__" := by decide) (hdb : (x == ("__debug__" : Str)) = false := by decide)
    (he : starEach (a :: es) X.env = (false, eval a X.env) :: starEach es X.env := by rfl) (hpl : (backTo pos (starEach es X.env)).any (·.1) = false := by rfl) : PE X (.Call (.Name x p) (a :: es) [] pos) (eM X.K (mFn o fa)) :=
  (pe_callTy hc hg hm hv ha hn hdb he hpl).weak fun _ _ _ h => mt_fn hs h
def oLen (M : MM) : List D → Option D
  | [.tup xs] => some (.int xs.length)
  | [.lst xs] => some (.int xs.length)
  | _ => none
theorem s_len : CallS K (fun xs H Q => ∃ p ys, xs = [.ref p] ∧ (SqL K H p ys ∨ SqT K H p ys) ∧ Q (.int ys.length) H) oLen := by
  intro H ms ex M v x z Q m rv e q
  unfold oLen at e
  split at e
  · cases e
    cases rv with
    | cons a b =>
      cases b
      cases a with
      | tup s r => exact ⟨_, _, rfl, .inr s, by rw [r.length]; exact q H _ (Ext.refl H) m (.int _)⟩
  · cases e
    cases rv with
    | cons a b =>
      cases b
      cases a with
      | lst s n1 n2 r => exact ⟨_, _, rfl, .inl (SqL.of s), by rw [r.length]; exact q H _ (Ext.refl H) m (.int _)⟩
  · cases e
def oTuple (M : MM) : List D → Option D
  | [.tup xs] => some (.tup xs)
  | [.lst xs] => some (.tup xs)
  | _ => none
theorem s_tuple : CallS K (fun xs H Q => ∃ p ys, xs = [.ref p] ∧ ((SqL K H p ys ∧ ∀ l, H l = none → Q (.ref l) (upd H l (.tup ys))) ∨ (SqT K H p ys ∧ Q (.ref p) H))) oTuple := by
  intro H ms ex M v x z Q m rv e q
  unfold oTuple at e
  split at e
  · cases e
    cases rv with
    | cons a b =>
      cases b
      cases a with
      | tup s r => exact ⟨_, _, rfl, .inr ⟨s, q H _ (Ext.refl H) m (.tup s r)⟩⟩
  · cases e
    cases rv with
    | cons a b =>
      cases b
      cases a with
      | lst s n1 n2 r =>
        refine ⟨_, _, rfl, .inl ⟨SqL.of s, fun p hp => ?_⟩⟩
        obtain ⟨e3, m4, r4⟩ := new_tup m hp r
        exact q _ _ e3 m4 r4
  · cases e
def oList (M : MM) : List D → Option D
  | [.tup xs] => some (.lst xs)
  | [.lst xs] => some (.lst xs)
  | [.fz xs] => some (.lst xs)
  | _ => none
theorem s_list : CallS K (fun xs H Q => ∃ p ys, xs = [.ref p] ∧ (SqL K H p ys ∨ SqT K H p ys) ∧ ∀ l, H l = none → Q (.ref l) (upd H l (.lst ys))) oList := by
  intro H ms ex M v x z Q m rv e q
  unfold oList at e
  split at e
  · cases e
    cases rv with
    | cons a b =>
      cases b
      cases a with
      | tup s r =>
        refine ⟨_, _, rfl, .inr s, fun p hp => ?_⟩
        obtain ⟨e3, m4, r4⟩ := new_lst m hp r
        exact q _ _ e3 m4 r4
  · cases e
    cases rv with
    | cons a b =>
      cases b
      cases a with
      | lst s n1 n2 r =>
        refine ⟨_, _, rfl, .inl (SqL.of s), fun p hp => ?_⟩
        obtain ⟨e3, m4, r4⟩ := new_lst m hp r
        exact q _ _ e3 m4 r4
  · cases e
    cases rv with
    | cons a b =>
      cases b
      cases a with
      | fz s r =>
        refine ⟨_, _, rfl, .inl s.sq, fun p hp => ?_⟩
        obtain ⟨e3, m4, r4⟩ := new_lst m hp r
        exact q _ _ e3 m4 r4
  · cases e
def boolsOf : List D → Option (List Bool)
  | [] => some []
  | .bl b :: ds => match boolsOf ds with
    | some bs => some (b :: bs)
    | none => none
  | _ => none
theorem boolsOf_eq : ∀ {ds : List D} {bs : List Bool}, boolsOf ds = some bs → ds = bs.map D.bl
  | [], bs, h => by cases h; rfl
  | .bl b :: ds, bs, h => by
    unfold boolsOf at h
    split at h
    · rename_i bs' h1
      cases h
      rw [boolsOf_eq h1]
      rfl
    · cases h
  | .non :: _, _, h => by cases h
  | .int _ :: _, _, h => by cases h
  | .str _ :: _, _, h => by cases h
  | .tup _ :: _, _, h => by cases h
  | .lst _ :: _, _, h => by cases h
  | .mu _ :: _, _, h => by cases h
  | .fz _ :: _, _, h => by cases h
def intsOf : List D → Option (List Int)
  | [] => some []
  | .int b :: ds => match intsOf ds with
    | some bs => some (b :: bs)
    | none => none
  | _ => none
theorem intsOf_eq : ∀ {ds : List D} {bs : List Int}, intsOf ds = some bs → ds = bs.map D.int
  | [], bs, h => by cases h; rfl
  | .int b :: ds, bs, h => by
    unfold intsOf at h
    split at h
    · rename_i bs' h1
      cases h
      rw [intsOf_eq h1]
      rfl
    · cases h
  | .non :: _, _, h => by cases h
  | .bl _ :: _, _, h => by cases h
  | .str _ :: _, _, h => by cases h
  | .tup _ :: _, _, h => by cases h
  | .lst _ :: _, _, h => by cases h
  | .mu _ :: _, _, h => by cases h
  | .fz _ :: _, _, h => by cases h
def oAll (M : MM) : List D → Option D
  | [.lst xs] => match boolsOf xs with
    | some bs => some (.bl (bs.all id))
    | none => none
  | _ => none
theorem s_all : CallS K (rAll K) oAll := by
  intro H ms ex M v x z Q m rv e q
  unfold oAll at e
  split at e
  · split at e
    · rename_i bs hb
      cases e
      cases rv with
      | cons a b =>
        cases b
        cases a with
        | lst s n1 n2 r =>
          rw [boolsOf_eq hb] at r
          rw [r.bools] at s
          exact ⟨_, _, rfl, SqL.of s, q H _ (Ext.refl H) m (.bl _)⟩
    · cases e
  · cases e
def maxL : Int → List Int → Int
  | x, [] => x
  | x, y :: ys => maxL (if y > x then y else x) ys
theorem maxL_ge : ∀ (ys : List Int) (x : Int), x ≤ maxL x ys ∧ (∀ y ∈ ys, y ≤ maxL x ys) ∧ (maxL x ys = x ∨ maxL x ys ∈ ys)
  | [], x => ⟨Int.le_refl _, fun _ h => absurd h (by simp), Or.inl rfl⟩
  | y :: ys, x => by
    unfold maxL
    obtain ⟨h1, h2, h3⟩ := maxL_ge ys (if y > x then y else x)
    refine ⟨?_, fun z hz => ?_, ?_⟩
    · split at h1 <;> rename_i h <;> simp only [h, if_true, if_false] <;> omega
    · rcases List.mem_cons.mp hz with e | hz
      · subst e
        split at h1 <;> rename_i h <;> simp only [h, if_true, if_false] <;> omega
      · exact h2 z hz
    · rcases h3 with h3 | h3
      · by_cases h : y > x
        · rw [h3, if_pos h]
          exact .inr List.mem_cons_self
        · rw [h3, if_neg h]
          exact .inl rfl
      · exact .inr (List.mem_cons_of_mem _ h3)
def oMax (M : MM) : List D → Option D
  | [.lst xs] => match intsOf xs with
    | some (i :: is) => some (.int (maxL i is))
    | _ => none
  | [.int i, .int j] => some (.int (if j > i then j else i))
  | [.int i, .int j, .int k] => some (.int (if k > (if j > i then j else i) then k else (if j > i then j else i)))
  | _ => none
def rMaxA (K : PySem.W.Frag) : List V → Hp → VK → Prop := fun xs H Q => (rMax K xs H Q ∨ ∃ i j, xs = [.int i, .int j] ∧ Q (.int (if j > i then j else i)) H) ∨ rNuC3 nuMax3 xs H Q
theorem call_maxA (hc : X.calm = true) : CallR X (.builtin "max") (rMaxA X.K) := ((cr_max hc).or (call_max2 hc)).or (call_max3Nu hc)
theorem s_max : CallS K (rMaxA K) oMax := by
  intro H ms ex M v x z Q m rv e q
  unfold oMax at e
  split at e
  · split at e
    · rename_i i is hb
      cases e
      cases rv with
      | cons a b =>
        cases b
        cases a with
        | lst s n1 n2 r =>
          rw [intsOf_eq hb] at r
          rw [r.ints] at s
          refine .inl (.inl ⟨_, i :: is, rfl, SqL.of s, by simp, fun mm h1 h2 => ?_⟩)
          have e : mm = maxL i is := by
            obtain ⟨g1, g2, g3⟩ := maxL_ge is i
            have a1 : maxL i is ≤ mm := by
              rcases g3 with g3 | g3
              · rw [g3]
                exact h2 _ List.mem_cons_self
              · exact h2 _ (List.mem_cons_of_mem _ g3)
            have a2 : mm ≤ maxL i is := by
              rcases List.mem_cons.mp h1 with h1 | h1
              · rw [h1]
                exact g1
              · exact g2 _ h1
            omega
          rw [e]
          exact q H _ (Ext.refl H) m (.int _)
    · cases e
  · cases e
    cases rv with
    | cons a b =>
      cases b with
      | cons b c =>
        cases c
        cases a
        cases b
        exact .inl (.inr ⟨_, _, rfl, q H _ (Ext.refl H) m (.int _)⟩)
  · rename_i i j k
    cases e
    cases rv with
    | cons a b =>
      cases b with
      | cons b c =>
        cases c with
        | cons c d =>
          cases d
          cases a
          cases b
          cases c
          refine .inr ⟨_, _, _, _, rfl, ?_, q H _ (Ext.refl H) m (.int _)⟩
          have h0 : ∀ a b : Int, nuMax2 (.int a) (.int b) = some (.int (if b > a then b else a)) := fun a b => by
            unfold nuMax2
            show some (if decide (a < b) = true then V.int b else V.int a) = _
            by_cases h : a < b
            · rw [if_pos (decide_eq_true h), if_pos h]
            · rw [if_neg (by simp [h]), if_neg h]
          unfold nuMax3
          rw [h0]
          show nuMax2 _ _ = _
          rw [h0]
  · cases e
def oAbs (M : MM) : List D → Option D
  | [.int i] => some (.int (if i < 0 then -i else i))
  | _ => none
theorem s_abs : CallS K (fun xs H Q => ∃ i, xs = [.int i] ∧ Q (.int (if i < 0 then -i else i)) H) oAbs := by
  intro H ms ex M v x z Q m rv e q
  unfold oAbs at e
  split at e
  · cases e
    cases rv with
    | cons a b =>
      cases b
      cases a
      exact ⟨_, rfl, q H _ (Ext.refl H) m (.int _)⟩
  · cases e
def oInt (M : MM) : List D → Option D
  | [.int i] => some (.int i)
  | _ => none
theorem s_int : CallS K (fun xs H Q => (∃ i, xs = [.int i] ∧ Q (.int i) H) ∨ ∃ k, xs = [.bl k] ∧ Q (.int (if k then 1 else 0)) H) oInt := by
  intro H ms ex M v x z Q m rv e q
  unfold oInt at e
  split at e
  · cases e
    cases rv with
    | cons a b =>
      cases b
      cases a
      exact .inl ⟨_, rfl, q H _ (Ext.refl H) m (.int _)⟩
  · cases e

/-! ### isinstance -/
def tyN : D → String
  | .non => "NoneType"
  | .bl _ => "bool"
  | .int _ => "int"
  | .str _ => "str"
  | .tup _ => "tuple"
  | .lst _ => "list"
  | .mu _ => "list"
  | .fz _ => "list"
theorem RV.tyx {v : V} {d : D} (m : RM K H ms ex M) (h : RV K H ms ex v d) : TyX K H v (.type (tyN d)) := by
  cases h with
  | non => exact .base .non
  | bl b => exact .base (.bl b)
  | int i => exact .base (.int i)
  | str x => exact .base (.str x)
  | tup s r =>
    rcases s with (s | ⟨o, s⟩) | ⟨o, its, n, h1, h2, _⟩
    · exact .base (.tup s)
    · exact .fTuple s
    · exact .kTuple h1 h2
  | lst s _ _ _ => exact .base (.lst s)
  | fz s _ =>
    rcases s with ⟨o, s⟩ | ⟨o, its, n, h1, h2, _⟩
    · exact .base (.frz s)
    · exact .kList h1 h2
  | mu e =>
    obtain ⟨xs, q⟩ := m.lst (.inl (List.mem_of_getElem? e))
    exact .base (.lst q)
def isT (T : String) : D → Bool
  | .non => false
  | .bl _ => T == "bool" || T == "int"
  | .int _ => T == "int"
  | .str _ => T == "str"
  | .tup _ => T == "tuple"
  | .lst _ => T == "list"
  | .mu _ => T == "list"
  | .fz _ => T == "list"
def mIs (T : String) (f : FE) : FE := fun r M => match f r M with
  | some (d, M1) => some (.bl (isT T d), M1)
  | none => none
def TyOk (T : String) : Prop := ∀ d : D, kitB (tyN d) T = some (isT T d)
theorem ty_int : TyOk "int" := fun d => by cases d <;> (dsimp only [tyN, isT]; decide +kernel)
theorem ty_bool : TyOk "bool" := fun d => by cases d <;> (dsimp only [tyN, isT]; decide +kernel)
theorem ty_tuple : TyOk "tuple" := fun d => by cases d <;> (dsimp only [tyN, isT]; decide +kernel)
theorem ty_str : TyOk "str" := fun d => by cases d <;> (dsimp only [tyN, isT]; decide +kernel)
theorem ty_list : TyOk "list" := fun d => by cases d <;> (dsimp only [tyN, isT]; decide +kernel)
theorem me_isi {x y : Str} {p p3 : Pos} {T : String} (hT : TyOk T) (hg : Gl X x) (hm : X.mg x = none) (hv : bootBuiltins x = some (.builtin "isinstance")) (hg2 : Gl X y) (hm2 : X.mg y = none) (hv2 : bootBuiltins y = some (.type T)) (ha : PE X a (eM X.K f))
    (hn : x ≠ "__name__" := by decide) (hdb : (x == ("__debug__" : Str)) = false := by decide) (hn2 : y ≠ "__name__" := by decide) (hdb2 : (y == ("__debug__" : Str)) = false := by decide)
    (hs : starEach [a, .Name y p3] X.env = (false, eval a X.env) :: starEach [.Name y p3] X.env := by rfl) (hpl : (backTo pos (starEach [.Name y p3] X.env)).any (·.1) = false := by rfl) (hs2 : starEach [.Name y p3] X.env = (false, eval (.Name y p3) X.env) :: starEach [] X.env := by rfl) :
    PE X (.Call (.Name x p) [a, .Name y p3] [] pos) (eM X.K (mIs T f)) :=
  (pe_callB call_isi hg hm hv (pa_cons ha (pa_cons (pe_bltn hg2 hm2 hv2 (v := .ty T) rfl hn2 hdb2) pa_nil hs2) hs) hn hdb hs hpl).weak fun σ H Q h => by
    obtain ⟨ms, ex, r, M, d', M', m, s, e, q⟩ := h
    unfold mIs at e
    split at e
    · rename_i d M1 h1
      cases e
      refine eM.use m s h1 fun H1 v1 x1 m1 s1 r1 => ?_
      exact ⟨v1, .ty T, _, _, _, rfl, .ty T, r1.tyx m1, kit_ty (hT d), q H1 _ x1 m1 (.bl _)⟩
    · cases e

/-! ### calls of the text's own -/
theorem me_call {CX : CXT} {k n : Nat} {fA : Addr} {fd : FuncData} {ps : List Str} {x : Str} {p : Pos} {gc : FC} {E : XK} (F : FnOk X.prog X.w X.K X.mg X.base CX k fA fd ps (spM X.K n gc)) (hr : Room k X.A) (hg : Gl X x) (hm : X.mg x = some (.ref fA)) (hk : PySem.W.keepIn X.K (.ref fA) = true)
    (hb : Binds X.K fd ps []) (hx : Passes CX X E) (ha : PA X (a :: es) (aM X.K fa)) (hl : ∀ r M ds M', fa r M = some (ds, M') → ds.length = n) (hdb : (x == ("__debug__" : Str)) = false := by decide)
    (he : starEach (a :: es) X.env = (false, eval a X.env) :: starEach es X.env := by rfl) (hpl : (backTo pos (starEach es X.env)).any (·.1) = false := by rfl) : PE X (.Call (.Name x p) (a :: es) [] pos) (eM X.K (mCall gc fa)) :=
  (pe_call F hr hg hm hk hb .nil hx ha hdb he hpl).weak fun σ H Q h => by
    obtain ⟨ms, ex, r, M, d', M', m, s, e, q⟩ := h
    unfold mCall at e
    split at e
    · rename_i ds M1 h1
      refine aM.use m s h1 fun H1 v1 x1 m1 s1 r1 => ?_
      refine ⟨ms, ex, M1, ds, d', M', m1, ?_, hl _ _ _ _ h1, e, fun H2 v2 x2 m2 r2 => q H2 v2 (x1.trans x2) m2 r2⟩
      rw [List.append_nil]
      exact r1
    · cases e
theorem ll_nil : ∀ r M ds M', mNil r M = some (ds, M') → ds.length = 0 := by
  intro r M ds M' h
  cases h
  rfl
theorem ll_cons {n : Nat} (h : ∀ r M ds M', fa r M = some (ds, M') → ds.length = n) : ∀ r M ds M', mCons f fa r M = some (ds, M') → ds.length = n + 1 := by
  intro r M ds M' e
  unfold mCons at e
  split at e
  · split at e
    · rename_i h2
      cases e
      exact congrArg (· + 1) (h _ _ _ _ h2)
    · cases e
  · cases e
end
end ML

/-! ML4: statements, loops, comprehensions, defs. -/
namespace ML
open PySem PySem.Spec PyProof.Rows L2
variable {K : PySem.W.Frag} {H H' H1 : Hp} {ms ms' ex ex' : List Addr} {M M' M1 : MM}

/-! ### plain functions -/
def mSkip : FS := fun r M => some (.nx r, M)
def mSeq (f g : FS) : FS := fun r M => match f r M with
  | some (.nx r1, M1) => g r1 M1
  | some (.rt d, M1) => some (.rt d, M1)
  | some (.bk r1, M1) => some (.bk r1, M1)
  | some (.ct r1, M1) => some (.ct r1, M1)
  | none => none
def mRet (f : FE) : FS := fun r M => match f r M with
  | some (d, M1) => some (.rt d, M1)
  | none => none
def mDrop (f : FE) : FS := fun r M => match f r M with
  | some (d, M1) => some (.nx r, M1)
  | none => none
def mIfS (c : FB) (f g : FS) : FS := fun r M => match c r M with
  | some (true, M1) => f r M1
  | some (false, M1) => g r M1
  | none => none
def mNever : FS := fun _ _ => none
def mSet (i : Nat) (f : FE) : FS := fun r M => match f r M with
  | some (d, M1) => some (.nx (r.set i (some d)), M1)
  | none => none
/-- a, b = e, e' -/
def mPar2 (i j : Nat) (f : FA) : FS := fun r M => match f r M with
  | some ([x, y], M1) => some (.nx ((r.set i (some x)).set j (some y)), M1)
  | _ => none
def mPar3 (i j l : Nat) (f : FA) : FS := fun r M => match f r M with
  | some ([x, y, z], M1) => some (.nx (((r.set i (some x)).set j (some y)).set l (some z)), M1)
  | _ => none
def tgName (i : Nat) : FT := fun d r => some (r.set i (some d))
def tgNil : List D → En → Option En
  | [], r => some r
  | _, _ => none
def tgCons (f : FT) (g : List D → En → Option En) : List D → En → Option En
  | d :: ds, r => match f d r with
    | some r1 => g ds r1
    | none => none
  | [], _ => none
def tgTup (n : Nat) (g : List D → En → Option En) : FT := fun d r => match d with
  | .tup ds => if ds.length = n then g ds r else none
  | _ => none
def mAsg (f : FE) (g : FT) : FS := fun r M => match f r M with
  | some (d, M1) => match g d r with
    | some r1 => some (.nx r1, M1)
    | none => none
  | none => none
/-- o[i] = e, o a list that may change -/
def mStore (fe fo fi : FE) : FS := fun r M => match fe r M with
  | some (d, M1) => match fo r M1 with
    | some (.mu n, M2) => match fi r M2 with
      | some (.int i, M3) => match M3[n]? with
        | some xs => match ixN xs.length i with
          | some j => some (.nx r, M3.set n (xs.set j d))
          | none => none
        | none => none
      | _ => none
    | _ => none
  | none => none
def forD (tg : FT) (f : FS) : List D → FS
  | [], r, M => some (.nx r, M)
  | d :: ds, r, M => match tg d r with
    | some r1 => match f r1 M with
      | some (.nx r2, M2) => forD tg f ds r2 M2
      | some (.ct r2, M2) => forD tg f ds r2 M2
      | some (.bk r2, M2) => some (.nx r2, M2)
      | some (.rt d, M2) => some (.rt d, M2)
      | none => none
    | none => none
/-- what a loop walks: a tuple's items, a list's -/
def itemsT : D → Option (List D)
  | .tup xs => some xs
  | _ => none
def itemsL : D → Option (List D)
  | .lst xs => some xs
  | _ => none
def mFor (it : D → Option (List D)) (fi : FE) (tg : FT) (f : FS) : FS := fun r M => match fi r M with
  | some (d, M1) => match it d with
    | some xs => forD tg f xs r M1
    | none => none
  | none => none
def rangeD (lo : Int) (n : Nat) : List D := (List.range n).map fun (i : Nat) => D.int (lo + (i : Int))
def rng1 : List D → Option (Int × Int)
  | [.int j] => if j.natAbs ≤ 1000000 then some (0, j) else none
  | _ => none
def rng2 : List D → Option (Int × Int)
  | [.int i, .int j] => if i.natAbs ≤ 1000000 ∧ j.natAbs ≤ 1000000 then some (i, j) else none
  | _ => none
def mForR (rg : List D → Option (Int × Int)) (fa : FA) (tg : FT) (f : FS) : FS := fun r M => match fa r M with
  | some (ds, M1) => match rg ds with
    | some (i, j) => forD tg f (rangeD i (j - i).toNat) r M1
    | none => none
  | none => none
def whileD (c : FB) (f : FS) : Nat → FS
  | 0, _, _ => none
  | n + 1, r, M => match c r M with
    | some (false, M1) => some (.nx r, M1)
    | some (true, M1) => match f r M1 with
      | some (.nx r2, M2) => whileD c f n r2 M2
      | some (.ct r2, M2) => whileD c f n r2 M2
      | some (.bk r2, M2) => some (.nx r2, M2)
      | some (.rt d, M2) => some (.rt d, M2)
      | none => none
    | none => none
def wipeD (r : En) : List Nat → En
  | [] => r
  | v :: vs => (wipeD r vs).set v none
def mYes : FB := fun _ M => some (true, M)
def lcD (tg : FT) (t : FB) (e : FE) (r : En) : List D → MM → Option (List D × MM)
  | [], M => some ([], M)
  | d :: ds, M => match tg d r with
    | some r1 => match t r1 M with
      | some (true, M1) => match e r1 M1 with
        | some (y, M2) => match lcD tg t e r ds M2 with
          | some (ys, M3) => some (y :: ys, M3)
          | none => none
        | none => none
      | some (false, M1) => lcD tg t e r ds M1
      | none => none
    | none => none
def mLc (it : D → Option (List D)) (fi : FE) (tg : FT) (t : FB) (e : FE) (vs : List Nat) : FE := fun r M => match fi r M with
  | some (d, M1) => match it d with
    | some xs => if xs.length ≤ 1000 then match lcD tg t e (wipeD r vs) xs M1 with
        | some (ys, M2) => some (.lst ys, M2)
        | none => none
      else none
    | none => none
  | none => none
def mLcR (rg : List D → Option (Int × Int)) (fa : FA) (tg : FT) (t : FB) (e : FE) (vs : List Nat) : FE := fun r M => match fa r M with
  | some (ds, M1) => match rg ds with
    | some (i, j) => if (j - i).toNat ≤ 1000 then match lcD tg t e (wipeD r vs) (rangeD i (j - i).toNat) M1 with
        | some (ys, M2) => some (.lst ys, M2)
        | none => none
      else none
    | none => none
  | none => none
def startD (n : Nat) (ds : List D) : En := ds.map some ++ List.replicate (n - ds.length) none
/-- a def: its slots, its body -/
def mFun (n : Nat) (f : FS) : FC := fun ds M => match f (startD n ds) M with
  | some (.rt d, M1) => some (d, M1)
  | some (.nx _, M1) => some (.non, M1)
  | _ => none

/-! ### the slots wiped -/
theorem Sl.wipe1 {σ : L2.St} {r : En} {i : Nat} (h : Sl K H ms ex σ r) : Sl K H ms ex (σ.set i none) (r.set i none) :=
  ⟨by simp [h.len], fun j e q => by
    by_cases hj : i = j
    · subst hj
      by_cases hi : i < r.length
      · rw [List.getElem?_set_self hi] at q
        cases q
      · rw [List.getElem?_eq_none (by simpa using hi)] at q
        cases q
    · rw [List.getElem?_set_ne hj] at q
      obtain ⟨w, a, b⟩ := h.at_ j e q
      exact ⟨w, by rw [List.getElem?_set_ne hj]; exact a, b⟩⟩
theorem Sl.wipe {σ : L2.St} {r : En} (h : Sl K H ms ex σ r) : ∀ vs : List Nat, Sl K H ms ex (L2.wipe σ vs) (wipeD r vs)
  | [] => h
  | v :: vs => (Sl.wipe h vs).wipe1

section
variable {X : Cx} {pos p2 : Pos} {a b c : Expr} {es : List Expr} {f g h : FE} {fa : FA} {st : Stmt} {sts : List Stmt} {fs gs : FS} {fb : FB} {tg : Expr} {ft : FT}

theorem sM.use {σ : L2.St} {r : En} {f : FS} {o : Out} {E : Ends} (m : RM K H ms ex M) (s : Sl K H ms ex σ r) (e : f r M = some (o, M'))
    (q : ∀ H', Ext ms H H' → RM K H' ms ex M' → oEnd K ms ex E H' o) : sM K f E σ H :=
  ⟨ms, ex, r, M, o, M', m, s, e, q⟩
theorem mss_nil : PSs X [] (sM X.K mSkip) := pss_nil.weak fun E σ H h => by
  obtain ⟨ms, ex, r, M, o, M', m, s, e, q⟩ := h
  cases e
  exact q H (Ext.refl H) m σ s
theorem mss_one (h : PS X st (sM X.K fs)) : PSs X [st] (sM X.K fs) := pss_one h
theorem mss_cons (h1 : PS X st (sM X.K fs)) (h2 : PSs X sts (sM X.K gs)) : PSs X (st :: sts) (sM X.K (mSeq fs gs)) :=
  (pss_cons h1 h2).weak fun E σ H h => by
    obtain ⟨ms, ex, r, M, o, M', m, s, e, q⟩ := h
    unfold mSeq at e
    split at e
    · rename_i r1 M1 h1
      refine sM.use m s h1 fun H1 x1 m1 σ1 s1 => ?_
      exact sM.use m1 s1 e fun H2 x2 m2 => q H2 (x1.trans x2) m2
    · rename_i d M1 h1
      cases e
      exact sM.use m s h1 fun H1 x1 m1 => q H1 x1 m1
    · rename_i d M1 h1
      cases e
      exact sM.use m s h1 fun H1 x1 m1 => q H1 x1 m1
    · rename_i d M1 h1
      cases e
      exact sM.use m s h1 fun H1 x1 m1 => q H1 x1 m1
    · cases e
theorem ms_ret (he : PE X a (eM X.K f)) : PS X (.Return (some a) pos) (sM X.K (mRet f)) := (ps_ret he).weak fun E σ H h => by
  obtain ⟨ms, ex, r, M, o, M', m, s, e, q⟩ := h
  unfold mRet at e
  split at e
  · rename_i d M1 h1
    cases e
    exact eM.use m s h1 fun H1 v1 x1 m1 s1 r1 => q H1 x1 m1 v1 r1
  · cases e
theorem ms_expr (he : PE X a (eM X.K f)) (hs : swapsWith a none pos.line X.env = Pure.pure false := by rfl) : PS X (.Expr a pos) (sM X.K (mDrop f)) := (ps_expr he hs).weak fun E σ H h => by
  obtain ⟨ms, ex, r, M, o, M', m, s, e, q⟩ := h
  unfold mDrop at e
  split at e
  · rename_i d M1 h1
    cases e
    exact eM.use m s h1 fun H1 v1 x1 m1 s1 r1 => q H1 x1 m1 σ s1
  · cases e
theorem ms_if (hc : PT X c (bM X.K fb)) (ha : PSs X sts (sM X.K fs)) {sts2 : List Stmt} (hb : PSs X sts2 (sM X.K gs)) : PS X (.If c sts sts2 pos) (sM X.K (mIfS fb fs gs)) := (ps_if hc ha hb).weak fun E σ H h => by
  obtain ⟨ms, ex, r, M, o, M', m, s, e, q⟩ := h
  unfold mIfS at e
  split at e
  · rename_i M1 h1
    refine bM.use m s h1 fun H1 x1 m1 s1 => iteT ?_
    exact sM.use m1 s1 e fun H2 x2 m2 => q H2 (x1.trans x2) m2
  · rename_i M1 h1
    refine bM.use m s h1 fun H1 x1 m1 s1 => iteF ?_
    exact sM.use m1 s1 e fun H2 x2 m2 => q H2 (x1.trans x2) m2
  · cases e
theorem ms_never : PS X st (sM X.K mNever) := ps_never.weak fun E σ H h => by
  obtain ⟨ms, ex, r, M, o, M', m, s, e, q⟩ := h
  cases e
theorem mss_never : PSs X sts (sM X.K mNever) := pss_never.weak fun E σ H h => by
  obtain ⟨ms, ex, r, M, o, M', m, s, e, q⟩ := h
  cases e

/-! ### stores -/
theorem mt_set {i : Nat} {E : Ends} {σ : L2.St} (h : sM K (mSet i f) E σ H) : tAsg (eM K f) (gName i) E σ H := by
  obtain ⟨ms, ex, r, M, o, M', m, s, e, q⟩ := h
  unfold mSet at e
  split at e
  · rename_i d M1 h1
    cases e
    exact eM.use m s h1 fun H1 v1 x1 m1 s1 r1 => q H1 x1 m1 _ (s1.set r1)
  · cases e
theorem mg_name {i : Nat} {x : Str} (hN : X.N.Nodup) (hi : X.N[i]? = some x) (hx : Loc X.env.scope x) (hf : X.fn x = true ∨ X.env.scope.names.lookup x = some .local := by first | exact .inl rfl | exact .inr rfl | assumption) : PG X (.Name x pos) (gM X.K (tgName i)) :=
  (pg_name hN hi hx hf).weak fun v σ H Q h => by
    obtain ⟨ms, ex, r, d, r', s, rv, e, q⟩ := h
    cases e
    exact q _ (s.set rv)
theorem mgs_nil : PGs X [] (gsM X.K tgNil) := pgs_nil.weak fun v σ H Q h => by
  obtain ⟨ms, ex, r, d, r', s, rv, e, q⟩ := h
  unfold tgNil at e
  split at e
  · cases e
    cases rv
    exact ⟨rfl, q _ s⟩
  · cases e
theorem mgs_cons {ft : FT} {gt : List D → En → Option En} (h1 : PG X a (gM X.K ft)) (h2 : PGs X es (gsM X.K gt))
    (hs : (assignEach (a :: es) X.env).map (·.2) = assign a X.env :: (assignEach es X.env).map (·.2) := by rfl) : PGs X (a :: es) (gsM X.K (tgCons ft gt)) := (pgs_cons h1 h2 hs).weak fun v σ H Q h => by
  obtain ⟨ms, ex, r, d, r', s, rv, e, q⟩ := h
  unfold tgCons at e
  split at e
  · split at e
    · rename_i r1 h1
      cases rv with
      | cons rv1 rv2 =>
        exact ⟨_, _, rfl, ms, ex, r, _, r1, s, rv1, h1, fun σ1 s1 => ⟨ms, ex, r1, _, r', s1, rv2, e, fun σ2 s2 => q σ2 s2⟩⟩
    · cases e
  · cases e
theorem mg_tup {k : Nat} {gt : List D → En → Option En} {n : Nat} (hc : X.calm = true) (h : PGs X es (gsM X.K gt))
    (hn : (assignEach es X.env).length = n := by rfl) (hst : (assignEach es X.env).findIdx? (·.1) = none := by rfl) : PG X (.Tuple es k pos) (gM X.K (tgTup n gt)) := (pg_tup hc h hn hst).weak fun v σ H Q h => by
  obtain ⟨ms, ex, r, d, r', s, rv, e, q⟩ := h
  unfold tgTup at e
  split at e
  · split at e
    · rename_i hl
      cases rv with
      | tup sq rr => exact ⟨_, _, rfl, sq, by rw [rr.length]; exact hl, ms, ex, r, _, r', s, rr, e, q⟩
    · cases e
  · cases e
theorem ms_asg (he : PE X a (eM X.K f)) (hg : PG X tg (gM X.K ft)) (hs : swapsWithSole [tg] a pos.line X.env = Pure.pure false := by rfl) (hw : swappedStores [tg] a X.env = Pure.pure none := by rfl)
    (h1 : (assignEach [tg] X.env).map (·.2) = [assign tg X.env] := by rfl) : PS X (.Assign [tg] a pos) (sM X.K (mAsg f ft)) := (ps_asg he hg hs hw h1).weak fun E σ H h => by
  obtain ⟨ms, ex, r, M, o, M', m, s, e, q⟩ := h
  unfold mAsg at e
  split at e
  · rename_i d M1 h1
    split at e
    · rename_i r1 h2
      cases e
      refine eM.use m s h1 fun H1 v1 x1 m1 s1 rv1 => ?_
      exact ⟨ms, ex, r, d, r1, s1, rv1, h2, fun σ2 s2 => q H1 x1 m1 σ2 s2⟩
    · cases e
  · cases e
theorem mt_par2 {i j : Nat} {E : Ends} {σ : L2.St} (h : sM K (mPar2 i j fa) E σ H) : tPar i j (aM K fa) E σ H := by
  obtain ⟨ms, ex, r, M, o, M', m, s, e, q⟩ := h
  unfold mPar2 at e
  split at e
  · rename_i x y M1 h1
    cases e
    refine aM.use m s h1 fun H1 v1 x1 m1 s1 r1 => ?_
    cases r1 with
    | cons r1 rr =>
      cases rr with
      | cons r2 rr =>
        cases rr
        exact ⟨_, _, rfl, q H1 x1 m1 _ ((s1.set r1).set r2)⟩
  · cases e
theorem mt_par3 {i j l : Nat} {E : Ends} {σ : L2.St} (h : sM K (mPar3 i j l fa) E σ H) : tPar3 i j l (aM K fa) E σ H := by
  obtain ⟨ms, ex, r, M, o, M', m, s, e, q⟩ := h
  unfold mPar3 at e
  split at e
  · rename_i x y M1 h1
    cases e
    refine aM.use m s h1 fun H1 v1 x1 m1 s1 r1 => ?_
    cases r1 with
    | cons r1 rr =>
      cases rr with
      | cons r2 rr =>
        cases rr with
        | cons r3 rr =>
          cases rr
          exact ⟨_, _, _, rfl, q H1 x1 m1 _ (((s1.set r1).set r2).set r3)⟩
  · cases e
theorem RM.store {n : Nat} {p : Addr} {vs : List V} {ds : List D} (m : RM K H ms ex M) (e1 : ms[n]? = some p) (h : n < M.length) (r : RVs K H ms ex vs ds) :
    Ext ms H (upd H p (.lst vs)) ∧ RM K (upd H p (.lst vs)) ms ex (M.set n ds) := by
  have hp : p ∈ ms := List.mem_of_getElem? e1
  have x : Ext ms H (upd H p (.lst vs)) := fun b o q nb => by
    have : b ≠ p := fun z => nb (z ▸ hp)
    rw [upd_ne this]
    exact q
  refine ⟨x, ⟨by rw [List.length_set]; exact m.len, m.nd, fun k b ds' h1 h2 => ?_, fun b hb => ?_⟩⟩
  · by_cases hk : n = k
    · subst hk
      rw [List.getElem?_set_self h] at h2
      cases h2
      rw [e1] at h1
      cases h1
      exact ⟨vs, upd_same, r.ext m x⟩
    · rw [List.getElem?_set_ne hk] at h2
      obtain ⟨xs, q, rr⟩ := m.at_ k b ds' h1 h2
      have : b ≠ p := fun z => hk (by
        subst z
        obtain ⟨l1, g1⟩ := List.getElem?_eq_some_iff.mp e1
        obtain ⟨l2, g2⟩ := List.getElem?_eq_some_iff.mp h1
        exact (List.getElem_inj m.nd).mp (g1.trans g2.symm))
      exact ⟨xs, by rw [upd_ne this]; exact q, rr.ext m x⟩
  · obtain ⟨n1, xs, q⟩ := m.exs b hb
    have : b ≠ p := fun z => n1 (z ▸ hp)
    exact ⟨n1, xs, by rw [upd_ne this]; exact q⟩
theorem ms_store {o i : Expr} {spos : Pos} (he : PE X a (eM X.K f)) (ho : PE X o (eM X.K g)) (hi : PE X i (eM X.K h))
    (ha : ∀ v, assign (.Subscript o i spos) X.env v = (do
      let ov ← holding [v] (eval o X.env)
      let iv ← holding [v, ov] (eval i X.env)
      standAt spos
      holding [v, ov, iv] (setItem ov iv v)
      release [v, ov, iv] []) := by intro _; rfl)
    (hs : swapsWithSole [.Subscript o i spos] a pos.line X.env = Pure.pure false := by rfl) (hw : swappedStores [.Subscript o i spos] a X.env = Pure.pure none := by rfl)
    (h1 : (assignEach [.Subscript o i spos] X.env).map (·.2) = [assign (.Subscript o i spos) X.env] := by rfl) : PS X (.Assign [.Subscript o i spos] a pos) (sM X.K (mStore f g h)) :=
  (ps_asg he (pg_sub ho hi set_list ha) hs hw h1).weak fun E σ H h => by
    obtain ⟨ms, ex, r, M, o, M', m, s, e, q⟩ := h
    unfold mStore at e
    split at e
    · rename_i d M1 h1
      split at e
      · rename_i n M2 h2
        split at e
        · rename_i i M3 h3
          split at e
          · rename_i xs h4
            split at e
            · rename_i j h5
              cases e
              refine eM.use m s h1 fun H1 v1 x1 m1 s1 r1 => ?_
              refine eM.use m1 s1 h2 fun H2 v2 x2 m2 s2 r2 => ?_
              refine eM.use m2 s2 h3 fun H3 v3 x3 m3 s3 r3 => ?_
              cases r3
              have r2' := r2.ext m2 x3
              cases r2' with
              | mu e1 =>
                obtain ⟨ys, sq, rr⟩ := m3.at_ _ _ _ e1 h4
                have rd := (r1.ext m1 x2).ext m2 x3
                have hn : n < M3.length := (List.getElem?_eq_some_iff.mp h4).1
                obtain ⟨x4, m4⟩ := m3.store e1 hn (rr.set rd j)
                exact ⟨_, ys, i, j, rfl, rfl, sq, by rw [rr.length]; exact h5, q _ (((x1.trans x2).trans x3).trans x4) m4 σ (s3.ext m3 x4)⟩
            · cases e
          · cases e
        · cases e
      · cases e
    · cases e

/-! ### loops -/
/-- the loop's reading, for what yields the items of a list of data, one a turn -/
theorem for_core {wi : TI} {J : It} {E : Ends} {σ : L2.St} {r : En} {xs : List D} {o : Out} (m : RM K H ms ex M) (s : Sl K H ms ex σ r) (e : forD ft fs xs r M = some (o, M')) (q : ∀ H', Ext ms H H' → RM K H' ms ex M' → oEnd K ms ex E H' o)
    (hgo : ∀ (i : Nat) (H' : Hp) (d : D), Ext ms H H' → xs[i]? = some d → J.go i H' ∧ ∀ x H2, J.yld i H' x H2 → H2 = H' ∧ ∀ M2, RM K H' ms ex M2 → RV K H' ms ex x d) (hst : ∀ H', Ext ms H H' → J.stop xs.length H') :
    ∃ W : Nat → Nat → L2.St → Hp → Prop, (∃ k, W 0 k σ H) ∧ ∀ i k σ H, W i k σ H →
      (J.stop i H ∧ E.nx σ H) ∨ (J.go i H ∧ ∃ N : L2.St → Hp → Prop, (∀ σ' H', N σ' H' → ∃ k', k' < k ∧ W (i + 1) k' σ' H') ∧ ∀ x H', J.yld i H x H' → gM K ft x σ H' fun σ2 H2 => sM K fs { E with nx := N, ct := N, bk := E.nx } σ2 H2) := by
  refine ⟨fun i k σ' H' => k = xs.length - i ∧ i ≤ xs.length ∧ ∃ r' M1, Ext ms H H' ∧ RM K H' ms ex M1 ∧ Sl K H' ms ex σ' r' ∧ forD ft fs (xs.drop i) r' M1 = some (o, M'), ⟨xs.length, by omega, Nat.zero_le _, r, M, Ext.refl H, m, s, e⟩, ?_⟩
  rintro i k σ1 H1 ⟨hk, hi, r1, M1, x1, m1, s1, e1⟩
  by_cases hlt : i < xs.length
  · obtain ⟨hg, hy⟩ := hgo i H1 xs[i] x1 (List.getElem?_eq_getElem hlt)
    rw [List.drop_eq_getElem_cons hlt] at e1
    unfold forD at e1
    split at e1
    · rename_i r2 h2
      refine .inr ⟨hg, fun σ' H' => i + 1 ≤ xs.length ∧ ∃ r' M2, Ext ms H H' ∧ RM K H' ms ex M2 ∧ Sl K H' ms ex σ' r' ∧ forD ft fs (xs.drop (i + 1)) r' M2 = some (o, M'), fun σ' H' hN => ⟨xs.length - (i + 1), by omega, rfl, hN⟩, fun x H' hx => ?_⟩
      obtain ⟨eH, rv⟩ := hy x H' hx
      subst eH
      have rv := rv M1 m1
      refine ⟨ms, ex, r1, xs[i], r2, s1, rv, h2, fun σ2 s2 => ?_⟩
      split at e1
      · rename_i r3 M3 h3
        exact sM.use m1 s2 h3 fun H3 x3 m3 σ3 s3 => ⟨hlt, r3, M3, x1.trans x3, m3, s3, e1⟩
      · rename_i r3 M3 h3
        exact sM.use m1 s2 h3 fun H3 x3 m3 σ3 s3 => ⟨hlt, r3, M3, x1.trans x3, m3, s3, e1⟩
      · rename_i r3 M3 h3
        cases e1
        exact sM.use m1 s2 h3 fun H3 x3 m3 σ3 s3 => q H3 (x1.trans x3) m3 σ3 s3
      · rename_i d3 M3 h3
        cases e1
        exact sM.use m1 s2 h3 fun H3 x3 m3 v3 rv3 => q H3 (x1.trans x3) m3 v3 rv3
      · cases e1
    · cases e1
  · have ei : i = xs.length := by omega
    subst ei
    rw [List.drop_length] at e1
    cases e1
    exact .inl ⟨hst H1 x1, q H1 x1 m1 σ1 s1⟩
theorem itt_go {vs : List V} {ds : List D} {q : Addr} (m : RM K H ms ex M) (sq : SqT K H q vs) (rr : RVs K H ms ex vs ds) (i : Nat) (H' : Hp) (d : D) (x : Ext ms H H') (hd : ds[i]? = some d) :
    (Itt K q).go i H' ∧ ∀ v H2, (Itt K q).yld i H' v H2 → H2 = H' ∧ ∀ M2, RM K H' ms ex M2 → RV K H' ms ex v d := by
  have sq' : SqT K H' q vs := SqT.stay (ms := ms) (ex := ex) (fun _ z => m.lst z) (fun b o e n _ => x b o e n) sq
  obtain ⟨v0, h0, rv0⟩ := rr.get hd
  refine ⟨⟨vs, v0, sq', h0⟩, fun v H2 hy => ⟨hy.1, fun _ _ => ?_⟩⟩
  have := hy.2 vs sq'
  rw [h0] at this
  cases this
  exact rv0.ext m x
theorem itt_stop {vs : List V} {ds : List D} {q : Addr} (m : RM K H ms ex M) (sq : SqT K H q vs) (rr : RVs K H ms ex vs ds) (H' : Hp) (x : Ext ms H H') : (Itt K q).stop ds.length H' :=
  ⟨vs, SqT.stay (ms := ms) (ex := ex) (fun _ z => m.lst z) (fun b o e n _ => x b o e n) sq, by rw [rr.length]; exact Nat.le_refl _⟩
theorem itl_go {vs : List V} {ds : List D} {q : Addr} (m : RM K H ms ex M) (sq : H q = some (.lst vs)) (nq : q ∉ ms) (rr : RVs K H ms ex vs ds) (i : Nat) (H' : Hp) (d : D) (x : Ext ms H H') (hd : ds[i]? = some d) :
    (Itl K q).go i H' ∧ ∀ v H2, (Itl K q).yld i H' v H2 → H2 = H' ∧ ∀ M2, RM K H' ms ex M2 → RV K H' ms ex v d := by
  have sq' : SqL K H' q vs := SqL.of (x q _ sq nq)
  obtain ⟨v0, h0, rv0⟩ := rr.get hd
  refine ⟨⟨vs, v0, sq', h0⟩, fun v H2 hy => ⟨hy.1, fun _ _ => ?_⟩⟩
  have := hy.2 vs sq'
  rw [h0] at this
  cases this
  exact rv0.ext m x
theorem itl_stop {vs : List V} {ds : List D} {q : Addr} (sq : H q = some (.lst vs)) (nq : q ∉ ms) (rr : RVs K H ms ex vs ds) (H' : Hp) (x : Ext ms H H') : (Itl K q).stop ds.length H' :=
  ⟨vs, SqL.of (x q _ sq nq), by rw [rr.length]; exact Nat.le_refl _⟩
theorem rangeD_len (i : Int) (n : Nat) : (rangeD i n).length = n := by simp [rangeD]
theorem rangeD_get {i : Int} {n k : Nat} {d : D} (h : (rangeD i n)[k]? = some d) : k < n ∧ d = .int (i + k) := by
  unfold rangeD at h
  rw [List.getElem?_map] at h
  by_cases hk : k < n
  · rw [List.getElem?_range hk] at h
    cases h
    exact ⟨hk, rfl⟩
  · rw [List.getElem?_eq_none (by simpa using hk)] at h
    cases h
theorem itr_go {lo : Int} {n : Nat} (i : Nat) (H' : Hp) (d : D) (hd : (rangeD lo n)[i]? = some d) :
    (Itr lo n).go i H' ∧ ∀ v H2, (Itr lo n).yld i H' v H2 → H2 = H' ∧ ∀ M2, RM K H' ms ex M2 → RV K H' ms ex v d := by
  obtain ⟨h1, h2⟩ := rangeD_get hd
  refine ⟨h1, fun v H2 hy => ⟨hy.1, fun _ _ => ?_⟩⟩
  rw [hy.2, h2]
  exact .int _

theorem ms_forT (hp : PassesOwn (model X.prog X.w) X.A X.env X.xe) (hc : X.calm = true) (hi : PE X a (eM X.K f)) (hg : PG X tg (gM X.K ft)) (hb : PSs X sts (sM X.K fs)) (hs : ∀ x, foldedSetIterable a X.env x = Pure.pure x := by intro _; rfl) :
    PS X (.For tg a sts [] pos) (sM X.K (mFor itemsT f ft fs)) :=
  (ps_for hp hc (pi_tup hi) hg hb hs).weak fun E σ H h => by
    obtain ⟨ms, ex, r, M, o, M', m, s, e, q⟩ := h
    unfold mFor at e
    split at e
    · rename_i d M1 h1
      split at e
      · rename_i xs h2
        refine eM.use m s h1 fun H1 v1 x1 m1 s1 r1 => ?_
        unfold itemsT at h2
        split at h2
        · cases h2
          cases r1 with
          | tup sq rr => exact ⟨_, rfl, ⟨_, sq⟩, for_core (wi := iTup X.K (eM X.K f)) m1 s1 e (fun H2 x2 m2 => q H2 (x1.trans x2) m2) (fun i H' d x hd => itt_go m1 sq rr i H' d x hd) (fun H' x => itt_stop m1 sq rr H' x)⟩
        · cases h2
      · cases e
    · cases e
theorem ms_forL (hp : PassesOwn (model X.prog X.w) X.A X.env X.xe) (hc : X.calm = true) (hi : PE X a (eM X.K f)) (hg : PG X tg (gM X.K ft)) (hb : PSs X sts (sM X.K fs)) (hs : ∀ x, foldedSetIterable a X.env x = Pure.pure x := by intro _; rfl) :
    PS X (.For tg a sts [] pos) (sM X.K (mFor itemsL f ft fs)) :=
  (ps_for hp hc (pi_list hi) hg hb hs).weak fun E σ H h => by
    obtain ⟨ms, ex, r, M, o, M', m, s, e, q⟩ := h
    unfold mFor at e
    split at e
    · rename_i d M1 h1
      split at e
      · rename_i xs h2
        refine eM.use m s h1 fun H1 v1 x1 m1 s1 r1 => ?_
        unfold itemsL at h2
        split at h2
        · cases h2
          cases r1 with
          | lst sq n1 n2 rr => exact ⟨_, rfl, ⟨_, SqL.of sq⟩, for_core (wi := iList X.K (eM X.K f)) m1 s1 e (fun H2 x2 m2 => q H2 (x1.trans x2) m2) (fun i H' d x hd => itl_go m1 sq n1 rr i H' d x hd) (fun H' x => itl_stop sq n1 rr H' x)⟩
        · cases h2
      · cases e
    · cases e
theorem ms_forR1 {x : Expr} {p : Pos} (hp : PassesOwn (model X.prog X.w) X.A X.env X.xe) (hc : X.calm = true) (hgl : Gl X "range") (hm : X.mg "range" = none) (hi : PA X [x] (aM X.K fa)) (hg : PG X tg (gM X.K ft)) (hb : PSs X sts (sM X.K fs))
    (h0 : starEach [x] X.env = [(false, eval x X.env)] := by rfl) (hs : ∀ y, foldedSetIterable (.Call (.Name "range" p) [x] [] p2) X.env y = Pure.pure y := by intro _; rfl) :
    PS X (.For tg (.Call (.Name "range" p) [x] [] p2) sts [] pos) (sM X.K (mForR rng1 fa ft fs)) :=
  (ps_for hp hc (pi_range1 hgl hm hi h0) hg hb hs).weak fun E σ H h => by
    obtain ⟨ms, ex, r, M, o, M', m, s, e, q⟩ := h
    unfold mForR at e
    split at e
    · rename_i ds M1 h1
      split at e
      · rename_i i j h2
        refine aM.use m s h1 fun H1 v1 x1 m1 s1 r1 => ?_
        unfold rng1 at h2
        split at h2
        · split at h2
          · rename_i hb2
            cases h2
            cases r1 with
            | cons r1 rr =>
              cases rr
              cases r1
              refine ⟨j, rfl, by omega, by omega, ?_⟩
              have e0 : (j - 0).toNat = j.toNat := by simp
              rw [e0] at e
              exact for_core (wi := iRng1 (aM X.K fa)) m1 s1 e (fun H2 x2 m2 => q H2 (x1.trans x2) m2) (fun i H' d x hd => itr_go i H' d hd) (fun H' x => by rw [rangeD_len]; exact Nat.le_refl _)
          · cases h2
        · cases h2
      · cases e
    · cases e
theorem ms_forR2 {x y : Expr} {p : Pos} (hp : PassesOwn (model X.prog X.w) X.A X.env X.xe) (hc : X.calm = true) (hgl : Gl X "range") (hm : X.mg "range" = none) (hi : PA X [x, y] (aM X.K fa)) (hg : PG X tg (gM X.K ft)) (hb : PSs X sts (sM X.K fs))
    (h0 : starEach [x, y] X.env = [(false, eval x X.env), (false, eval y X.env)] := by rfl) (h02 : starEach [y] X.env = [(false, eval y X.env)] := by rfl) (hs : ∀ z, foldedSetIterable (.Call (.Name "range" p) [x, y] [] p2) X.env z = Pure.pure z := by intro _; rfl) :
    PS X (.For tg (.Call (.Name "range" p) [x, y] [] p2) sts [] pos) (sM X.K (mForR rng2 fa ft fs)) :=
  (ps_for hp hc (pi_range2 hgl hm hi h0 h02) hg hb hs).weak fun E σ H h => by
    obtain ⟨ms, ex, r, M, o, M', m, s, e, q⟩ := h
    unfold mForR at e
    split at e
    · rename_i ds M1 h1
      split at e
      · rename_i i j h2
        refine aM.use m s h1 fun H1 v1 x1 m1 s1 r1 => ?_
        unfold rng2 at h2
        split at h2
        · split at h2
          · rename_i hb2
            cases h2
            cases r1 with
            | cons r1 rr =>
              cases rr with
              | cons r2 rr =>
                cases rr
                cases r1
                cases r2
                refine ⟨i, j, rfl, by omega, ?_⟩
                exact for_core (wi := iRng2 (aM X.K fa)) m1 s1 e (fun H2 x2 m2 => q H2 (x1.trans x2) m2) (fun i H' d x hd => itr_go i H' d hd) (fun H' x => by rw [rangeD_len]; exact Nat.le_refl _)
          · cases h2
        · cases h2
      · cases e
    · cases e
theorem ms_while (n : Nat) (hp : PassesOwn (model X.prog X.w) X.A X.env X.xe) (hc : PT X c (bM X.K fb)) (hb : PSs X sts (sM X.K fs)) : PS X (.While c sts [] pos) (sM X.K (whileD fb fs n)) :=
  (ps_while hp hc hb).weak fun E σ H h => by
    obtain ⟨ms, ex, r, M, o, M', m, s, e, q⟩ := h
    refine ⟨fun k σ' H' => ∃ r' M1, Ext ms H H' ∧ RM X.K H' ms ex M1 ∧ Sl X.K H' ms ex σ' r' ∧ whileD fb fs k r' M1 = some (o, M'), ⟨n, r, M, Ext.refl H, m, s, e⟩, ?_⟩
    rintro k σ1 H1 ⟨r1, M1, x1, m1, s1, e1⟩
    cases k with
    | zero => cases e1
    | succ k =>
      unfold whileD at e1
      split at e1
      · rename_i M2 h2
        cases e1
        exact bM.use m1 s1 h2 fun H2 x2 m2 s2 => iteF (q H2 (x1.trans x2) m2 σ1 s2)
      · rename_i M2 h2
        refine bM.use m1 s1 h2 fun H2 x2 m2 s2 => iteT ⟨fun σ' H' => ∃ r' M1, Ext ms H H' ∧ RM X.K H' ms ex M1 ∧ Sl X.K H' ms ex σ' r' ∧ whileD fb fs k r' M1 = some (o, M'), fun σ' H' hN => ⟨k, Nat.lt_succ_self _, hN⟩, ?_⟩
        split at e1
        · rename_i r3 M3 h3
          exact sM.use m2 s2 h3 fun H3 x3 m3 σ3 s3 => ⟨r3, M3, (x1.trans x2).trans x3, m3, s3, e1⟩
        · rename_i r3 M3 h3
          exact sM.use m2 s2 h3 fun H3 x3 m3 σ3 s3 => ⟨r3, M3, (x1.trans x2).trans x3, m3, s3, e1⟩
        · rename_i r3 M3 h3
          cases e1
          exact sM.use m2 s2 h3 fun H3 x3 m3 σ3 s3 => q H3 ((x1.trans x2).trans x3) m3 σ3 s3
        · rename_i d3 M3 h3
          cases e1
          exact sM.use m2 s2 h3 fun H3 x3 m3 v3 rv3 => q H3 ((x1.trans x2).trans x3) m3 v3 rv3
        · cases e1
      · cases e1
end
end ML

/-! ML5: comprehensions, defs, a list that may change. -/
namespace ML
open PySem PySem.Spec PyProof.Rows L2
variable {K : PySem.W.Frag} {H H' H1 : Hp} {ms ms' ex ex' : List Addr} {M M' M1 : MM}

/-! ### slots forgotten and set -/
theorem wipe_set (x y : Option V) (i : Nat) : ∀ (vs : List Nat) (σ : L2.St), (L2.wipe (σ.set i x) vs).set i y = (L2.wipe σ vs).set i y
  | [], σ => by
    show (σ.set i x).set i y = σ.set i y
    rw [List.set_set]
  | v :: vs, σ => by
    show ((L2.wipe (σ.set i x) vs).set v none).set i y = ((L2.wipe σ vs).set v none).set i y
    by_cases h : v = i
    · subst h
      rw [List.set_set, List.set_set, wipe_set x y v vs σ]
    · rw [List.set_comm _ _ h, List.set_comm _ _ h, wipe_set x y i vs σ]
theorem wipe_same (x : Option V) (i : Nat) : ∀ (vs : List Nat) (σ : L2.St), i ∈ vs → L2.wipe (σ.set i x) vs = L2.wipe σ vs
  | [], _, h => by cases h
  | v :: vs, σ, h => by
    show (L2.wipe (σ.set i x) vs).set v none = (L2.wipe σ vs).set v none
    by_cases e : v = i
    · subst e
      exact wipe_set x none v vs σ
    · rcases List.mem_cons.mp h with h | h
      · exact absurd h.symm e
      · rw [wipe_same x i vs σ h]

/-! ### targets of a comprehension -/
def gW (K : PySem.W.Frag) (vs : List Nat) (f : FT) : TG := fun v σ H Q => ∃ ms ex r d r', Sl K H ms ex σ r ∧ RV K H ms ex v d ∧ f d r = some r' ∧ ∀ σ', Sl K H ms ex σ' r' → L2.wipe σ' vs = L2.wipe σ vs → Q σ' H
def gsW (K : PySem.W.Frag) (vs : List Nat) (f : List D → En → Option En) : TGs := fun v σ H Q => ∃ ms ex r d r', Sl K H ms ex σ r ∧ RVs K H ms ex v d ∧ f d r = some r' ∧ ∀ σ', Sl K H ms ex σ' r' → L2.wipe σ' vs = L2.wipe σ vs → Q σ' H
section
variable {X : Cx} {pos p2 : Pos} {a b c : Expr} {es : List Expr} {f g h fe : FE} {fa : FA} {st : Stmt} {sts : List Stmt} {fs gs : FS} {fb : FB} {tg : Expr} {ft : FT} {vs : List Nat}
theorem mw_name {i : Nat} {x : Str} (hv : i ∈ vs) (hN : X.N.Nodup) (hi : X.N[i]? = some x) (hx : Loc X.env.scope x) (hf : X.fn x = true ∨ X.env.scope.names.lookup x = some .local := by first | exact .inl rfl | exact .inr rfl | assumption) : PG X (.Name x pos) (gW X.K vs (tgName i)) :=
  (pg_name hN hi hx hf).weak fun v σ H Q h => by
    obtain ⟨ms, ex, r, d, r', s, rv, e, q⟩ := h
    cases e
    exact q _ (s.set rv) (wipe_same _ _ _ _ hv)
theorem mws_nil : PGs X [] (gsW X.K vs tgNil) := pgs_nil.weak fun v σ H Q h => by
  obtain ⟨ms, ex, r, d, r', s, rv, e, q⟩ := h
  unfold tgNil at e
  split at e
  · cases e
    cases rv
    exact ⟨rfl, q _ s rfl⟩
  · cases e
theorem mws_cons {ft : FT} {gt : List D → En → Option En} (h1 : PG X a (gW X.K vs ft)) (h2 : PGs X es (gsW X.K vs gt))
    (hs : (assignEach (a :: es) X.env).map (·.2) = assign a X.env :: (assignEach es X.env).map (·.2) := by rfl) : PGs X (a :: es) (gsW X.K vs (tgCons ft gt)) := (pgs_cons h1 h2 hs).weak fun v σ H Q h => by
  obtain ⟨ms, ex, r, d, r', s, rv, e, q⟩ := h
  unfold tgCons at e
  split at e
  · split at e
    · rename_i r1 h1
      cases rv with
      | cons rv1 rv2 =>
        exact ⟨_, _, rfl, ms, ex, r, _, r1, s, rv1, h1, fun σ1 s1 w1 => ⟨ms, ex, r1, _, r', s1, rv2, e, fun σ2 s2 w2 => q σ2 s2 (w2.trans w1)⟩⟩
    · cases e
  · cases e
theorem mw_tup {k : Nat} {gt : List D → En → Option En} {n : Nat} (hc : X.calm = true) (h : PGs X es (gsW X.K vs gt))
    (hn : (assignEach es X.env).length = n := by rfl) (hst : (assignEach es X.env).findIdx? (·.1) = none := by rfl) : PG X (.Tuple es k pos) (gW X.K vs (tgTup n gt)) := (pg_tup hc h hn hst).weak fun v σ H Q h => by
  obtain ⟨ms, ex, r, d, r', s, rv, e, q⟩ := h
  unfold tgTup at e
  split at e
  · split at e
    · rename_i hl
      cases rv with
      | tup sq rr => exact ⟨_, _, rfl, sq, by rw [rr.length]; exact hl, ms, ex, r, _, r', s, rr, e, q⟩
    · cases e
  · cases e
theorem mts_nil : PTs X [] (bM X.K mYes) := ⟨fun pins s σ H Q I h => by
  obtain ⟨ms, ex, r, M, d, M', m, sl, e, q⟩ := h
  cases e
  exact pts_nil.run pins s σ H Q I (q H (Ext.refl H) m)⟩
theorem mts_one (h : PT X c (bM X.K fb)) : PTs X [c] (bM X.K fb) := pts_one h

/-- one more list that is being made -/
theorem RV.lock {p : Addr} {v : V} {d : D} (m : RM K H ms ex M) (hp : H p = none) (x : Ext ms H H') (r : RV K H ms ex v d) : RV K H' ms (p :: ex) v d :=
  RV.mono (fun _ _ z => z) (fun a o e => ⟨id, fun z => by
    rcases List.mem_cons.mp z with z | z
    · rw [z, hp] at e
      cases e
    · exact .inr z⟩) (fun _ z => m.lst z) (fun b o q n _ => x b o q n) r
theorem Sl.lock {p : Addr} {σ : L2.St} {r : En} (m : RM K H ms ex M) (hp : H p = none) (x : Ext ms H H') (s : Sl K H ms ex σ r) : Sl K H' ms (p :: ex) σ r :=
  ⟨s.len, fun i d e => by
    obtain ⟨v, h1, h2⟩ := s.at_ i d e
    exact ⟨v, h1, h2.lock m hp x⟩⟩
theorem lock_new {p : Addr} (m : RM K H ms ex M) (hp : H p = none) : RM K (upd H p (.lst [])) ms (p :: ex) M := by
  have sm := same_new (o := HO.lst []) hp
  obtain ⟨n1, n2⟩ := fresh_ms m hp
  refine ⟨m.len, m.nd, fun n a ds h1 h2 => ?_, fun b hb => ?_⟩
  · obtain ⟨xs, q, r⟩ := m.at_ n a ds h1 h2
    exact ⟨xs, sm _ _ q, RVs.mono (fun _ _ z => z) (fun a o e => ⟨id, fun z => by
      rcases List.mem_cons.mp z with z | z
      · rw [z, hp] at e
        cases e
      · exact .inr z⟩) (fun _ z => m.lst z) (fun b o q n _ => sm b o q) r⟩
  · rcases List.mem_cons.mp hb with hb | hb
    · subst hb
      exact ⟨n1, _, upd_same⟩
    · obtain ⟨n3, xs, q⟩ := m.exs b hb
      exact ⟨n3, xs, sm _ _ q⟩
theorem lock_grow {p : Addr} {vs : List V} (m : RM K H ms (p :: ex) M) : (∀ {v d}, RV K H ms (p :: ex) v d → RV K (upd H p (.lst vs)) ms (p :: ex) v d) ∧ RM K (upd H p (.lst vs)) ms (p :: ex) M := by
  have k : ∀ b o, H b = some o → b ∉ ms → b ∉ p :: ex → upd H p (.lst vs) b = some o := fun b o q _ nb => by
    have : b ≠ p := fun z => nb (by rw [z]; exact List.mem_cons_self)
    rw [upd_ne this]
    exact q
  have h1 : ∀ {v d}, RV K H ms (p :: ex) v d → RV K (upd H p (.lst vs)) ms (p :: ex) v d := fun {v d} r => RV.mono (fun _ _ z => z) (fun _ _ _ => ⟨id, .inr⟩) (fun _ z => m.lst z) k r
  have h2 : ∀ {v d}, RVs K H ms (p :: ex) v d → RVs K (upd H p (.lst vs)) ms (p :: ex) v d := fun {v d} r => RVs.mono (fun _ _ z => z) (fun _ _ _ => ⟨id, .inr⟩) (fun _ z => m.lst z) k r
  refine ⟨h1, m.len, m.nd, fun n a ds e1 e2 => ?_, fun b hb => ?_⟩
  · obtain ⟨xs, q, r⟩ := m.at_ n a ds e1 e2
    have : a ≠ p := fun z => (m.exs p List.mem_cons_self).1 (z ▸ List.mem_of_getElem? e1)
    exact ⟨xs, by rw [upd_ne this]; exact q, h2 r⟩
  · obtain ⟨n1, xs, q⟩ := m.exs b hb
    by_cases e : b = p
    · subst e
      exact ⟨n1, _, upd_same⟩
    · exact ⟨n1, xs, by rw [upd_ne e]; exact q⟩
theorem lock_end {p : Addr} {vs : List V} {ds : List D} (m : RM K H ms (p :: ex) M) (hn : p ∉ ex) (e : H p = some (.lst vs)) (r : RVs K H ms (p :: ex) vs ds) : RM K H ms ex M ∧ RV K H ms ex (.ref p) (.lst ds) := by
  have h2 : ∀ {v d}, RVs K H ms (p :: ex) v d → RVs K H ms ex v d := fun {v d} r => RVs.mono (fun _ _ z => z) (fun _ _ _ => ⟨id, fun z => .inr (List.mem_cons_of_mem _ z)⟩) (fun _ z => m.lst z) (fun _ _ q _ _ => q) r
  refine ⟨⟨m.len, m.nd, fun n a ds e1 e2 => ?_, fun b hb => m.exs b (List.mem_cons_of_mem _ hb)⟩, .lst e (m.exs p List.mem_cons_self).1 hn (h2 r)⟩
  obtain ⟨xs, q, r⟩ := m.at_ n a ds e1 e2
  exact ⟨xs, q, h2 r⟩
theorem lc_rd {J : It} {σ : L2.St} {r : En} {xs ys : List D} {Q : VK} (m : RM K H ms ex M) (s : Sl K H ms ex σ r) (hl : xs.length ≤ 1000) (e : lcD ft fb fe (wipeD r vs) xs M = some (ys, M'))
    (q : ∀ H' v, Ext ms H H' → RM K H' ms ex M' → RV K H' ms ex v (.lst ys) → Q v H')
    (hgo : ∀ (i : Nat) (H' : Hp) (d : D), Ext ms H H' → xs[i]? = some d → J.go i H' ∧ ∀ x H2, J.yld i H' x H2 → H2 = H' ∧ RV K H ms ex x d) (hst : ∀ H', Ext ms H H' → J.stop xs.length H') :
    ∀ D, H D = none → ∃ W : Nat → Nat → Hp → Prop, (∃ k, W 0 k (upd H D (.lst []))) ∧ ∀ i k H', W i k H' →
      (J.stop i H' ∧ Q (.ref D) H') ∨ (J.go i H' ∧ ∃ Nx : Hp → Prop, (∀ H2, Nx H2 → ∃ k', k' < k ∧ W (i + 1) k' H2) ∧ ∀ x H2, J.yld i H' x H2 → gW K vs ft x (L2.wipe σ vs) H2 fun σ2 H3 => L2.wipe σ2 vs = L2.wipe σ vs ∧ bM K fb σ2 H3 fun b H4 =>
        if b = true then eM K fe σ2 H4 fun y H5 => ∃ acc, H5 D = some (.lst acc) ∧ acc.length < sizeLine ∧ Nx (upd H5 D (.lst (acc ++ [y]))) else Nx H4) := by
  intro p hp
  obtain ⟨np1, np2⟩ := fresh_ms m hp
  have ww : L2.wipe (L2.wipe σ vs) vs = L2.wipe σ vs := by
    have gen : ∀ (us : List Nat) (σ : L2.St), (∀ i ∈ us, i ∈ vs) → L2.wipe (L2.wipe σ us) vs = L2.wipe σ vs := fun us => by
      induction us with
      | nil => intro σ _; rfl
      | cons u us ih =>
        intro σ hu
        show L2.wipe ((L2.wipe σ us).set u none) vs = _
        rw [wipe_same _ _ _ _ (hu u List.mem_cons_self)]
        exact ih σ fun i hi => hu i (List.mem_cons_of_mem _ hi)
    exact gen vs σ fun _ h => h
  let W : Nat → Nat → Hp → Prop := fun i k H2 => k = xs.length - i ∧ i ≤ xs.length ∧ ∃ Mi aV aD rest, Ext ms H H2 ∧ RM K H2 ms (p :: ex) Mi ∧ H2 p = some (.lst aV) ∧ RVs K H2 ms (p :: ex) aV aD ∧ aV.length ≤ i ∧
    lcD ft fb fe (wipeD r vs) (xs.drop i) Mi = some (rest, M') ∧ aD ++ rest = ys
  refine ⟨W, ⟨xs.length, by omega, Nat.zero_le _, M, [], [], ys, Ext.of (same_new hp), lock_new m hp, upd_same, .nil, Nat.le_refl _, e, rfl⟩, ?_⟩
  rintro i k H2 ⟨hk, hi, Mi, aV, aD, rest, x2, m2, ep, ra, hal, ee, hy⟩
  by_cases hlt : i < xs.length
  · obtain ⟨hg, hyl⟩ := hgo i H2 xs[i] x2 (List.getElem?_eq_getElem hlt)
    rw [List.drop_eq_getElem_cons hlt] at ee
    unfold lcD at ee
    split at ee
    · rename_i r2 h2
      refine .inr ⟨hg, W (i + 1) (xs.length - (i + 1)), fun H' hN => ⟨xs.length - (i + 1), by omega, hN⟩, fun x H3 hx => ?_⟩
      obtain ⟨eH, rv⟩ := hyl x H3 hx
      subst eH
      have rv' := rv.lock m hp x2
      have s2 : Sl K H3 ms (p :: ex) (L2.wipe σ vs) (wipeD r vs) := (s.wipe vs).lock m hp x2
      refine ⟨ms, p :: ex, _, xs[i], r2, s2, rv', h2, fun σ2 s3 w3 => ⟨w3.trans ww, ?_⟩⟩
      split at ee
      · rename_i M1 h3
        refine bM.use m2 s3 h3 fun H4 x4 m4 s4 => iteT ?_
        split at ee
        · rename_i y M2 h4
          refine eM.use m4 s4 h4 fun H5 v5 x5 m5 s5 r5 => ?_
          have ep5 : H5 p = some (.lst aV) := x5 p _ (x4 p _ ep np1) np1
          split at ee
          · rename_i zs M3 h5
            cases ee
            have x25 := (x2.trans x4).trans x5
            obtain ⟨lg, mg⟩ := lock_grow (vs := aV ++ [v5]) m5
            refine ⟨aV, ep5, small1000 (by omega), rfl, hlt, M2, aV ++ [v5], aD ++ [y], zs, fun b o e nb => ?_, mg, upd_same, ?_, ?_, h5, ?_⟩
            · have : b ≠ p := fun z => by
                rw [z, hp] at e
                cases e
              rw [upd_ne this]
              exact x25 b o e nb
            · have ra5 := (ra.ext m2 x4).ext m4 x5
              have : ∀ {v : List V} {d : List D}, RVs K H5 ms (p :: ex) v d → RVs K (upd H5 p (.lst (aV ++ [v5]))) ms (p :: ex) v d := fun {v d} h => by
                induction d generalizing v with
                | nil => cases h; exact .nil
                | cons d ds ih =>
                  cases h with
                  | cons h1 h2 => exact .cons (lg h1) (ih h2)
              exact (this ra5).append (.cons (lg r5) .nil)
            · rw [List.length_append]
              show aV.length + 1 ≤ i + 1
              omega
            · rw [List.append_assoc]
              exact hy
          · cases ee
        · cases ee
      · rename_i M1 h3
        refine bM.use m2 s3 h3 fun H4 x4 m4 s4 => iteF ?_
        exact ⟨rfl, hlt, M1, aV, aD, rest, x2.trans x4, m4, x4 p _ ep np1, ra.ext m2 x4, by omega, ee, hy⟩
      · cases ee
    · cases ee
  · have ei : i = xs.length := by omega
    subst ei
    rw [List.drop_length] at ee
    cases ee
    rw [List.append_nil] at hy
    subst hy
    obtain ⟨m3, r3⟩ := lock_end m2 np2 ep ra
    exact .inl ⟨hst H2 x2, q H2 _ x2 m3 r3⟩

theorem itt_go0 {vs : List V} {ds : List D} {q : Addr} (m : RM K H ms ex M) (sq : SqT K H q vs) (rr : RVs K H ms ex vs ds) (i : Nat) (H' : Hp) (d : D) (x : Ext ms H H') (hd : ds[i]? = some d) :
    (Itt K q).go i H' ∧ ∀ v H2, (Itt K q).yld i H' v H2 → H2 = H' ∧ RV K H ms ex v d := by
  have sq' : SqT K H' q vs := SqT.stay (ms := ms) (ex := ex) (fun _ z => m.lst z) (fun b o e n _ => x b o e n) sq
  obtain ⟨v0, h0, rv0⟩ := rr.get hd
  refine ⟨⟨vs, v0, sq', h0⟩, fun v H2 hy => ⟨hy.1, ?_⟩⟩
  have := hy.2 vs sq'
  rw [h0] at this
  cases this
  exact rv0
theorem itl_go0 {vs : List V} {ds : List D} {q : Addr} (m : RM K H ms ex M) (sq : H q = some (.lst vs)) (nq : q ∉ ms) (rr : RVs K H ms ex vs ds) (i : Nat) (H' : Hp) (d : D) (x : Ext ms H H') (hd : ds[i]? = some d) :
    (Itl K q).go i H' ∧ ∀ v H2, (Itl K q).yld i H' v H2 → H2 = H' ∧ RV K H ms ex v d := by
  have sq' : SqL K H' q vs := SqL.of (x q _ sq nq)
  obtain ⟨v0, h0, rv0⟩ := rr.get hd
  refine ⟨⟨vs, v0, sq', h0⟩, fun v H2 hy => ⟨hy.1, ?_⟩⟩
  have := hy.2 vs sq'
  rw [h0] at this
  cases this
  exact rv0
theorem itr_go0 {lo : Int} {n : Nat} (i : Nat) (H' : Hp) (d : D) (hd : (rangeD lo n)[i]? = some d) :
    (Itr lo n).go i H' ∧ ∀ v H2, (Itr lo n).yld i H' v H2 → H2 = H' ∧ RV K H ms ex v d := by
  obtain ⟨h1, h2⟩ := rangeD_get hd
  refine ⟨h1, fun v H2 hy => ⟨hy.1, ?_⟩⟩
  rw [hy.2, h2]
  exact .int _
theorem mt_lcT {σ : L2.St} {Q : VK} (h : eM K (mLc itemsT f ft fb fe vs) σ H Q) : tLc (iTup K (eM K f)) (gW K vs ft) (bM K fb) (eM K fe) vs σ H Q := by
  obtain ⟨ms, ex, r, M, o, M', m, s, e, q⟩ := h
  unfold mLc at e
  split at e
  · rename_i d M1 h1
    split at e
    · rename_i xs h2
      split at e
      · rename_i hl
        split at e
        · rename_i ys M2 h3
          cases e
          refine eM.use m s h1 fun H1 v1 x1 m1 s1 r1 => ?_
          unfold itemsT at h2
          split at h2
          · cases h2
            cases r1 with
            | tup sq rr => exact ⟨_, rfl, ⟨_, sq⟩, lc_rd m1 s1 hl h3 (fun H2 v x2 m2 r2 => q H2 v (x1.trans x2) m2 r2) (fun i H' d x hd => itt_go0 m1 sq rr i H' d x hd) (fun H' x => itt_stop m1 sq rr H' x)⟩
          · cases h2
        · cases e
      · cases e
    · cases e
  · cases e
theorem mt_lcL {σ : L2.St} {Q : VK} (h : eM K (mLc itemsL f ft fb fe vs) σ H Q) : tLc (iList K (eM K f)) (gW K vs ft) (bM K fb) (eM K fe) vs σ H Q := by
  obtain ⟨ms, ex, r, M, o, M', m, s, e, q⟩ := h
  unfold mLc at e
  split at e
  · rename_i d M1 h1
    split at e
    · rename_i xs h2
      split at e
      · rename_i hl
        split at e
        · rename_i ys M2 h3
          cases e
          refine eM.use m s h1 fun H1 v1 x1 m1 s1 r1 => ?_
          unfold itemsL at h2
          split at h2
          · cases h2
            cases r1 with
            | lst sq n1 n2 rr => exact ⟨_, rfl, ⟨_, SqL.of sq⟩, lc_rd m1 s1 hl h3 (fun H2 v x2 m2 r2 => q H2 v (x1.trans x2) m2 r2) (fun i H' d x hd => itl_go0 m1 sq n1 rr i H' d x hd) (fun H' x => itl_stop sq n1 rr H' x)⟩
          · cases h2
        · cases e
      · cases e
    · cases e
  · cases e
theorem mt_lcR1 {σ : L2.St} {Q : VK} (h : eM K (mLcR rng1 fa ft fb fe vs) σ H Q) : tLc (iRng1 (aM K fa)) (gW K vs ft) (bM K fb) (eM K fe) vs σ H Q := by
  obtain ⟨ms, ex, r, M, o, M', m, s, e, q⟩ := h
  unfold mLcR at e
  split at e
  · rename_i ds M1 h1
    split at e
    · rename_i i j h2
      split at e
      · rename_i hl
        split at e
        · rename_i ys M2 h3
          cases e
          refine aM.use m s h1 fun H1 v1 x1 m1 s1 r1 => ?_
          unfold rng1 at h2
          split at h2
          · split at h2
            · rename_i hb2
              cases h2
              cases r1 with
              | cons r1 rr =>
                cases rr
                cases r1
                refine ⟨j, rfl, by omega, by omega, ?_⟩
                have e0 : (j - 0).toNat = j.toNat := by simp
                rw [e0] at h3 hl
                exact lc_rd m1 s1 (by rw [rangeD_len]; exact hl) h3 (fun H2 v x2 m2 r2 => q H2 v (x1.trans x2) m2 r2) (fun i H' d x hd => itr_go0 i H' d hd) (fun H' x => by rw [rangeD_len]; exact Nat.le_refl _)
            · cases h2
          · cases h2
        · cases e
      · cases e
    · cases e
  · cases e
theorem mt_lcR2 {σ : L2.St} {Q : VK} (h : eM K (mLcR rng2 fa ft fb fe vs) σ H Q) : tLc (iRng2 (aM K fa)) (gW K vs ft) (bM K fb) (eM K fe) vs σ H Q := by
  obtain ⟨ms, ex, r, M, o, M', m, s, e, q⟩ := h
  unfold mLcR at e
  split at e
  · rename_i ds M1 h1
    split at e
    · rename_i i j h2
      split at e
      · rename_i hl
        split at e
        · rename_i ys M2 h3
          cases e
          refine aM.use m s h1 fun H1 v1 x1 m1 s1 r1 => ?_
          unfold rng2 at h2
          split at h2
          · split at h2
            · rename_i hb2
              cases h2
              cases r1 with
              | cons r1 rr =>
                cases rr with
                | cons r2 rr =>
                  cases rr
                  cases r1
                  cases r2
                  refine ⟨i, j, rfl, by omega, ?_⟩
                  exact lc_rd m1 s1 (by rw [rangeD_len]; exact hl) h3 (fun H2 v x2 m2 r2 => q H2 v (x1.trans x2) m2 r2) (fun i H' d x hd => itr_go0 i H' d hd) (fun H' x => by rw [rangeD_len]; exact Nat.le_refl _)
            · cases h2
          · cases h2
        · cases e
      · cases e
    · cases e
  · cases e

/-! ### the rules of comprehensions, over any source -/
theorem me_lc {iter elt : Expr} {ifs : List Expr} {scope : Scope} {own : List (Str × Nat)} {wi : TI} {F : FE} (hr : ∀ σ H Q, eM X.K F σ H Q → tLc wi (gW X.K (own.map (·.2)) ft) (bM X.K fb) (eM X.K fe) (own.map (·.2)) σ H Q) (hc : X.calm = true) (hN : X.N.Nodup) (hi : PI X tg iter wi) (ok : BlkOk X.N X.env.scope scope own)
    (hg : ∀ (s : Shared) (H : Hp) (C : Addr) (cl : List (Str × Addr)) (fp : List Addr), PG (X.blk s H scope (compEnvC scope cl C X.env) fp) tg (gW X.K (own.map (·.2)) ft)) (ht : ∀ (s : Shared) (H : Hp) (C : Addr) (cl : List (Str × Addr)) (fp : List Addr), PTs (X.blk s H scope (compEnvC scope cl C X.env) fp) ifs (bM X.K fb))
    (he : ∀ (s : Shared) (H : Hp) (C : Addr) (cl : List (Str × Addr)) (fp : List Addr), PE (X.blk s H scope (compEnvC scope cl C X.env) fp) elt (eM X.K fe)) (hs : ∀ x, foldedSetIterable iter X.env x = Pure.pure x := by intro _; rfl) :
    PE X (.ListComp elt [⟨tg, iter, ifs, 0⟩] scope pos) (eM X.K F) := (pe_lc hc hN hi ok hg ht he hs).weak hr
theorem ms_setLc {i : Nat} {y : Str} {py spos : Pos} {iter elt : Expr} {ifs : List Expr} {scope : Scope} {own : List (Str × Nat)} {wi : TI} {F : FE} (hr : ∀ σ H Q, eM X.K F σ H Q → tLc wi (gW X.K (own.map (·.2)) ft) (bM X.K fb) (eM X.K fe) (own.map (·.2)) σ H Q)
    (hc : X.calm = true) (hN : X.N.Nodup) (hy : X.N[i]? = some y) (hyl : X.env.scope.names.lookup y = some .local) (hsw : swapsWith (.ListComp elt [⟨tg, iter, ifs, 0⟩] scope pos) (some (.Name y py)) spos.line X.env = Pure.pure true) (hi : PI X tg iter wi) (ok : BlkOk X.N X.env.scope scope own)
    (hg : ∀ (s : Shared) (H : Hp) (C : Addr) (cl : List (Str × Addr)) (fp : List Addr), PG (X.blk s H scope (compEnvC scope cl C X.env) fp) tg (gW X.K (own.map (·.2)) ft)) (ht : ∀ (s : Shared) (H : Hp) (C : Addr) (cl : List (Str × Addr)) (fp : List Addr), PTs (X.blk s H scope (compEnvC scope cl C X.env) fp) ifs (bM X.K fb))
    (he : ∀ (s : Shared) (H : Hp) (C : Addr) (cl : List (Str × Addr)) (fp : List Addr), PE (X.blk s H scope (compEnvC scope cl C X.env) fp) elt (eM X.K fe)) (hs : ∀ x, foldedSetIterable iter X.env x = Pure.pure x := by intro _; rfl) :
    PS X (.Assign [.Name y py] (.ListComp elt [⟨tg, iter, ifs, 0⟩] scope pos) spos) (sM X.K (mSet i F)) := (ps_setLc hc hN hy hyl hsw hi ok hg ht he hs).weak fun E σ H h => hr σ H _ (mt_set h)

/-! ### a def -/
theorem start_sl {N : List Str} {v : List V} {ds : List D} (r : RVs K H ms ex v ds) : Sl K H ms ex (L2.start N v) (startD N.length ds) := by
  have hl := r.length
  refine ⟨by simp [L2.start, startD, hl], fun i d e => ?_⟩
  unfold startD at e
  by_cases hi : i < ds.length
  · rw [List.getElem?_append_left (by simpa using hi), List.getElem?_map] at e
    cases h : ds[i]? with
    | none => rw [h] at e; cases e
    | some d' =>
      rw [h] at e
      cases e
      obtain ⟨w, h1, h2⟩ := r.get h
      refine ⟨w, ?_, h2⟩
      unfold L2.start
      rw [List.getElem?_append_left (by simpa [hl] using hi), List.getElem?_map, h1]
      rfl
  · rw [List.getElem?_append_right (by simpa using hi), List.getElem?_replicate] at e
    split at e <;> cases e
variable {P : Program} {w : World} {mg : Str → Option Value} {base : Heap}
theorem m_fn {x qual : Str} {st : Stmt} {q : Addr} {fd : FuncData} {N ps : List Str} {k : Nat} (F : Fun K x qual st q fd) (S : FnScope N ps (defScope st))
    (hb : ∀ (cdv : Value) (A : Around) (outer : List Env) (s : Shared) (H : Hp) (E : XK), Room k (A.deeper (envOfC qual (defScope st) s.heap.objs.size q cdv)) →
      PSs (cxOf CX0 P w K mg base N qual (defScope st) q cdv A outer s H E).nox (defBody st) (sM K fs)) : FnOk P w K mg base CX0 (k + 1) q fd ps (spM K ps.length (mFun N.length fs)) := by
  refine F.ok S (fun vs H Q E h => ?_) (fun cdv A outer s H vs Q E hr h => ⟨sM K fs, hb cdv A outer s H E hr, ?_⟩)
  · obtain ⟨ms, ex, M, ds, d, M', m, r, hl, _⟩ := h
    rw [r.length, hl]
  · obtain ⟨ms, ex, M, ds, d, M', m, r, hl, e, hq⟩ := h
    unfold mFun at e
    split at e
    · rename_i d1 M1 h1
      cases e
      exact sM.use m (start_sl r) h1 fun H1 x1 m1 v rv => hq H1 v x1 m1 rv
    · rename_i r1 M1 h1
      cases e
      exact sM.use m (start_sl r) h1 fun H1 x1 m1 σ' _ => hq H1 .non x1 m1 .non
    · cases e

/-! ### a def that hands back a new list; a name that holds it and may change it -/
abbrev FL := List D → MM → Option (List D × MM)
def spF (K : PySem.W.Frag) (n : Nat) (g : FL) : Sp := fun vs H Q _ => ∃ ms ex M ds ys M', RM K H ms ex M ∧ RVs K H ms ex vs ds ∧ ds.length = n ∧ g ds M = some (ys, M') ∧
  ∀ H' p xs, Ext ms H H' → RM K H' ms ex M' → H p = none → H' p = some (.lst xs) → RVs K H' ms ex xs ys → Q (.ref p) H'
def mFunF (n : Nat) (f : FS) (fa : FA) : FL := fun ds M => match f (startD n ds) M with
  | some (.nx r, M1) => fa r M1
  | _ => none
theorem m_fnF {x qual : Str} {st s1 : Stmt} {p1 p2 : Pos} {q : Addr} {fd : FuncData} {N ps : List Str} {k : Nat} (F : Fun K x qual st q fd) (S : FnScope N ps (defScope st)) (hbd : defBody st = [s1, .Return (some (.List es p1)) p2]) (hn : ∀ r M ds M', fa r M = some (ds, M') → ds.length ≤ 1000)
    (hb : ∀ (cdv : Value) (A : Around) (outer : List Env) (s : Shared) (H : Hp) (E : XK), Room k (A.deeper (envOfC qual (defScope st) s.heap.objs.size q cdv)) →
      PS (cxOf CX0 P w K mg base N qual (defScope st) q cdv A outer s H E).nox s1 (sM K fs) ∧ PA (cxOf CX0 P w K mg base N qual (defScope st) q cdv A outer s H E).nox es (aM K fa)) : FnOk P w K mg base CX0 (k + 1) q fd ps (spF K ps.length (mFunF N.length fs fa)) := by
  refine F.ok S (fun vs H Q E h => ?_) (fun cdv A outer s H vs Q E hr h => ?_)
  · obtain ⟨ms, ex, M, ds, d, M', m, r, hl, _⟩ := h
    rw [r.length, hl]
  · obtain ⟨h1, h2⟩ := hb cdv A outer s H E hr
    refine ⟨_, by rw [hbd]; exact pss_cons h1 (pss_one (ps_ret (pe_lst h2))), ?_⟩
    obtain ⟨ms, ex, M, ds, ys, M', m, r, hl, e, hq⟩ := h
    unfold mFunF at e
    split at e
    · rename_i r1 M1 g1
      refine sM.use m (start_sl r) g1 fun H1 x1 m1 σ1 s1 => ?_
      refine aM.use m1 s1 e fun H2 v2 x2 m2 s2 r2 => ⟨r2.small (hn _ _ _ _ e), fun p hp => ?_⟩
      have hp0 : H p = none := by
        cases h : H p with
        | none => rfl
        | some o =>
          have n1 : p ∉ ms := (fresh_ms m2 hp).1
          rw [(x1.trans x2) p o h n1] at hp
          cases hp
      have sm := same_new (o := HO.lst v2) hp
      exact hq _ p v2 ((x1.trans x2).trans (Ext.of sm)) (m2.same sm) hp0 upd_same (r2.ext m2 (Ext.of sm))
    · cases e
def plainD : D → Bool
  | .non => true
  | .bl _ => true
  | .int _ => true
  | .str _ => true
  | _ => false
/-- x = f(..), f hands back a new list, no other list may change so far; the rest of the block -/
def mMu (i : Nat) (g : FL) (fa : FA) (f : FS) : FS := fun r M => match fa r M with
  | some (ds, []) => match g ds [] with
    | some (ys, []) => if ys.all plainD then match f (r.set i (some (.mu 0))) [ys] with
        | some (.rt d, _) => if plainD d then some (.rt d, []) else none
        | _ => none
      else none
    | _ => none
  | _ => none
/-- the list at p, just made, may change from now on -/
theorem push_rv {p : Addr} (m0 : RM K H ms ex M) (hp : H p = none) (x : Ext ms H H') {v : V} {d : D} (rv : RV K H ms ex v d) : RV K H' (ms ++ [p]) ex v d := by
  refine RV.mono (fun n a e => ?_) (fun a o e => ⟨fun z => ?_, Or.inr⟩) (fun _ z => m0.lst z) (fun b o q n _ => x b o q n) rv
  · rw [List.getElem?_append_left (List.getElem?_eq_some_iff.mp e).1]
    exact e
  · rcases List.mem_append.mp z with z | z
    · exact z
    · have : a = p := by simpa using z
      rw [this, hp] at e
      cases e
theorem plain_rv {v : V} {d : D} (h : plainD d = true) (rv : RV K H ms' ex v d) : RV K H' ms ex v d := by
  cases rv with
  | non => exact .non
  | bl b => exact .bl b
  | int i => exact .int i
  | str z => exact .str z
  | tup _ _ => cases h
  | lst _ _ _ _ => cases h
  | fz _ _ => cases h
  | mu _ => cases h
theorem plain_rvs : ∀ {v : List V} {d : List D}, d.all plainD = true → RVs K H ms' ex v d → RVs K H' ms ex v d
  | _, _, _, .nil => .nil
  | _, _, h, .cons a b => .cons (plain_rv (Bool.and_eq_true_iff.mp h).1 a) (plain_rvs (Bool.and_eq_true_iff.mp h).2 b)
theorem mss_mu {CX : CXT} {k n i : Nat} {fA : Addr} {fd : FuncData} {ps : List Str} {x y : Str} {py p pos' : Pos} {gl : FL} {E : XK} (F : FnOk X.prog X.w X.K X.mg X.base CX k fA fd ps (spF X.K n gl)) (hr : Room k X.A) (hgl : Gl X x) (hm : X.mg x = some (.ref fA)) (hk : PySem.W.keepIn X.K (.ref fA) = true)
    (hb : Binds X.K fd ps []) (hx : Passes CX X E) (ha : PA X (a :: es) (aM X.K fa)) (hl : ∀ r M ds M', fa r M = some (ds, M') → ds.length = n)
    (hN : X.N.Nodup) (hi : X.N[i]? = some y) (hly : Loc X.env.scope y) (hrest : PSs X sts (sM X.K fs))
    (hf : X.fn y = true ∨ X.env.scope.names.lookup y = some .local := by first | exact .inl rfl | exact .inr rfl | assumption) (hdb : (x == ("__debug__" : Str)) = false := by decide)
    (he : starEach (a :: es) X.env = (false, eval a X.env) :: starEach es X.env := by rfl) (hpl : (backTo pos (starEach es X.env)).any (·.1) = false := by rfl)
    (hsw : swapsWithSole [.Name y py] (.Call (.Name x p) (a :: es) [] pos) pos'.line X.env = Pure.pure false := by rfl) (hsw2 : swappedStores [.Name y py] (.Call (.Name x p) (a :: es) [] pos) X.env = Pure.pure none := by rfl)
    (h1 : (assignEach [.Name y py] X.env).map (·.2) = [assign (.Name y py) X.env] := by rfl) :
    PSs X (.Assign [.Name y py] (.Call (.Name x p) (a :: es) [] pos) pos' :: sts) (sM X.K (mMu i gl fa fs)) :=
  (pss_cons (ps_asg (pe_call F hr hgl hm hk hb .nil hx ha hdb he hpl) (pg_name hN hi hly hf) hsw hsw2 h1) hrest).weak fun EE σ H h => by
    obtain ⟨ms, ex, r, M, o, M', m, s, e, q⟩ := h
    unfold mMu at e
    split at e
    · rename_i ds h1
      split at e
      · rename_i ys h2
        split at e
        · rename_i hpl2
          split at e
          · rename_i d M3 h3
            split at e
            · rename_i hp
              cases e
              refine aM.use m s h1 fun H1 v1 x1 m1 s1 r1 => ?_
              refine ⟨ms, ex, [], ds, ys, [], m1, ?_, hl _ _ _ _ h1, h2, fun H2 a2 xs x2 m2 n2 e2 r2 => ?_⟩
              · rw [List.append_nil]
                exact r1
              · have hms : ms = [] := List.eq_nil_of_length_eq_zero m2.len
                subst hms
                obtain ⟨na1, na2⟩ := fresh_ms m1 n2
                refine sM.use (ms := [a2]) (ex := ex) (M := [ys]) (r := r.set i (some (.mu 0))) ⟨rfl, by simp, fun n a ds' e1 e3 => ?_, fun b hb => ?_⟩ ?_ h3 fun H3 x3 m3 v3 rv3 => ?_
                · cases n with
                  | zero =>
                    cases e1
                    cases e3
                    exact ⟨xs, e2, plain_rvs hpl2 r2⟩
                  | succ n => simp at e1
                · obtain ⟨_, zs, q2⟩ := m2.exs b hb
                  refine ⟨fun z => ?_, zs, q2⟩
                  have : b = a2 := by simpa using z
                  exact na2 (this ▸ hb)
                · refine Sl.set ⟨s1.len, fun j d' ej => ?_⟩ (.mu rfl)
                  obtain ⟨w, g1, g2⟩ := s1.at_ j d' ej
                  exact ⟨w, g1, push_rv (ms := []) m1 n2 x2 g2⟩
                · refine q H3 (fun b o eb nb => ?_) ⟨rfl, by simp, fun n a ds' e1 _ => by simp at e1, fun b hb => ⟨by simp, (m3.exs b hb).2⟩⟩ v3 (plain_rv hp rv3)
                  have g2 : H2 b = some o := x2 b o (x1 b o eb (by simp)) (by simp)
                  have nb2 : b ∉ [a2] := fun z => by
                    have : b = a2 := by simpa using z
                    rw [this] at eb
                    have g1 : H1 a2 = some o := x1 a2 o eb (by simp)
                    rw [n2] at g1
                    cases g1
                  exact x3 b o g2 nb2
            · cases e
          · cases e
        · cases e
      · cases e
    · cases e
end
end ML
namespace ML
open PySem PySem.Spec PyProof.Rows L2
section
variable {X : Cx} {pos : Pos} {a b c : Expr} {fa : FA}
theorem ms_par2 {i j : Nat} {x y : Str} {px py pt : Pos} {kt k2 pt2} (hc : X.calm = true) (hN : X.N.Nodup) (hi : X.N[i]? = some x) (hj : X.N[j]? = some y) (hij : i ≠ j)
    (hx : X.env.scope.names.lookup x = some .local) (hy : X.env.scope.names.lookup y = some .local) (ha : PA X [a, b] (aM X.K fa))
    (hw : swappedStores [.Tuple [.Name x px, .Name y py] kt pt] (.Tuple [a, b] k2 pt2) X.env = Pure.pure (some [x, y]))
    (hs : swapsWithSole [.Tuple [.Name x px, .Name y py] kt pt] (.Tuple [a, b] k2 pt2) pos.line X.env = Pure.pure false := by rfl) :
    PS X (.Assign [.Tuple [.Name x px, .Name y py] kt pt] (.Tuple [a, b] k2 pt2) pos) (sM X.K (mPar2 i j fa)) := (ps_par hc hN hi hj hij hx hy ha hw hs).weak fun _ _ _ h => mt_par2 h
theorem ms_par3 {i j l : Nat} {x y z : Str} {px py pz pt : Pos} {kt k2 pt2} (hc : X.calm = true) (hN : X.N.Nodup) (hi : X.N[i]? = some x) (hj : X.N[j]? = some y) (hl : X.N[l]? = some z) (hij : i ≠ j) (hil : i ≠ l) (hjl : j ≠ l)
    (hx : X.env.scope.names.lookup x = some .local) (hy : X.env.scope.names.lookup y = some .local) (hz : X.env.scope.names.lookup z = some .local) (ha : PA X [a, b, c] (aM X.K fa))
    (hw : swappedStores [.Tuple [.Name x px, .Name y py, .Name z pz] kt pt] (.Tuple [a, b, c] k2 pt2) X.env = Pure.pure (some [x, y, z]))
    (hs : swapsWithSole [.Tuple [.Name x px, .Name y py, .Name z pz] kt pt] (.Tuple [a, b, c] k2 pt2) pos.line X.env = Pure.pure false := by rfl) :
    PS X (.Assign [.Tuple [.Name x px, .Name y py, .Name z pz] kt pt] (.Tuple [a, b, c] k2 pt2) pos) (sM X.K (mPar3 i j l fa)) := (ps_par3 hc hN hi hj hl hij hil hjl hx hy hz ha hw hs).weak fun _ _ _ h => mt_par3 h
end
theorem room65 {k : Nat} {A : Around} (r : Room k A) : A.units + 65 < cLine := by
  have := r.un
  omega
theorem fn0 {P : Program} {w : World} {K : PySem.W.Frag} {mg : Str → Option Value} {base : Heap} {f : Addr} {fd : FuncData} {ps : List Str} {n : Nat} : FnOk P w K mg base CX0 0 f fd ps (spM K n fun _ _ => none) := by
  refine ⟨fun vs H Q E h => ?_, fun A outer s H args us vs Q E hr he hb hv hs => ?_⟩
  · obtain ⟨ms, ex, M, ds, d, M', m, r, hl, e, _⟩ := h
    cases e
  · obtain ⟨ms, ex, M, ds, d, M', m, r, hl, e, _⟩ := hs
    cases e
end ML

/-! the text of twobesides_k07_whole_scripts_as_values by places, the mirror of each def -/
namespace MT
open PySem PySem.Spec PyProof.Rows L2 ML
def topS (i : Nat) : Stmt := PySem.Challenge.pw_twobesides_k07_whole_scripts_as_values.main.body.getD i (.Pass ⟨0, 0, 0, 0⟩)
abbrev s_p_is_integer : Stmt := topS 5
abbrev n_p_is_integer : List Str := ["value"]
theorem sc_p_is_integer : FnScope ["value"] ["value"] (defScope s_p_is_integer) := ⟨rfl, rfl, rfl, by decide +kernel, rfl, by decide +kernel, by decide +kernel⟩
abbrev s_p_is_between : Stmt := topS 6
abbrev n_p_is_between : List Str := ["value", "least", "most"]
theorem sc_p_is_between : FnScope ["value", "least", "most"] ["value", "least", "most"] (defScope s_p_is_between) := ⟨rfl, rfl, rfl, by decide +kernel, rfl, by decide +kernel, by decide +kernel⟩
abbrev s_p_is_tuple_of : Stmt := topS 7
abbrev n_p_is_tuple_of : List Str := ["value", "many"]
theorem sc_p_is_tuple_of : FnScope ["value", "many"] ["value", "many"] (defScope s_p_is_tuple_of) := ⟨rfl, rfl, rfl, by decide +kernel, rfl, by decide +kernel, by decide +kernel⟩
abbrev s_p_are_answers : Stmt := topS 8
abbrev n_p_are_answers : List Str := ["value", "many", "answer"]
theorem sc_p_are_answers : FnScope ["value", "many", "answer"] ["value", "many"] (defScope s_p_are_answers) := ⟨rfl, rfl, rfl, by decide +kernel, rfl, by decide +kernel, by decide +kernel⟩
abbrev s_p_are_two_named : Stmt := topS 9
abbrev n_p_are_two_named : List Str := ["named", "one", "other"]
theorem sc_p_are_two_named : FnScope ["named", "one", "other"] ["named", "one", "other"] (defScope s_p_are_two_named) := ⟨rfl, rfl, rfl, by decide +kernel, rfl, by decide +kernel, by decide +kernel⟩
abbrev s_p_is_deed_of : Stmt := topS 10
abbrev n_p_is_deed_of : List Str := ["named", "value"]
theorem sc_p_is_deed_of : FnScope ["named", "value"] ["named", "value"] (defScope s_p_is_deed_of) := ⟨rfl, rfl, rfl, by decide +kernel, rfl, by decide +kernel, by decide +kernel⟩
abbrev s_p_is_asking : Stmt := topS 11
abbrev n_p_is_asking : List Str := ["named", "value"]
theorem sc_p_is_asking : FnScope ["named", "value"] ["named", "value"] (defScope s_p_is_asking) := ⟨rfl, rfl, rfl, by decide +kernel, rfl, by decide +kernel, by decide +kernel⟩
abbrev s_p_left_behind : Stmt := topS 12
abbrev n_p_left_behind : List Str := ["named", "value", "depth", "left", "item"]
theorem sc_p_left_behind : FnScope ["named", "value", "depth", "left", "item"] ["named", "value", "depth", "left"] (defScope s_p_left_behind) := ⟨rfl, rfl, rfl, by decide +kernel, rfl, by decide +kernel, by decide +kernel⟩
abbrev s_p_left_behind_item : Stmt := topS 13
abbrev n_p_left_behind_item : List Str := ["named", "item", "depth", "left"]
theorem sc_p_left_behind_item : FnScope ["named", "item", "depth", "left"] ["named", "item", "depth", "left"] (defScope s_p_left_behind_item) := ⟨rfl, rfl, rfl, by decide +kernel, rfl, by decide +kernel, by decide +kernel⟩
abbrev s_p_is_script_of : Stmt := topS 14
abbrev n_p_is_script_of : List Str := ["named", "value"]
theorem sc_p_is_script_of : FnScope ["named", "value"] ["named", "value"] (defScope s_p_is_script_of) := ⟨rfl, rfl, rfl, by decide +kernel, rfl, by decide +kernel, by decide +kernel⟩
abbrev s_p_check_named : Stmt := topS 20
abbrev n_p_check_named : List Str := ["named"]
theorem sc_p_check_named : FnScope ["named"] ["named"] (defScope s_p_check_named) := ⟨rfl, rfl, rfl, by decide +kernel, rfl, by decide +kernel, by decide +kernel⟩
abbrev s_p_check_script : Stmt := topS 21
abbrev n_p_check_script : List Str := ["named", "script"]
theorem sc_p_check_script : FnScope ["named", "script"] ["named", "script"] (defScope s_p_check_script) := ⟨rfl, rfl, rfl, by decide +kernel, rfl, by decide +kernel, by decide +kernel⟩
abbrev s_p_is_script : Stmt := topS 23
abbrev n_p_is_script : List Str := ["named", "value"]
theorem sc_p_is_script : FnScope ["named", "value"] ["named", "value"] (defScope s_p_is_script) := ⟨rfl, rfl, rfl, by decide +kernel, rfl, by decide +kernel, by decide +kernel⟩
abbrev s_p_count_deeds : Stmt := topS 24
abbrev n_p_count_deeds : List Str := ["named", "script"]
theorem sc_p_count_deeds : FnScope ["named", "script"] ["named", "script"] (defScope s_p_count_deeds) := ⟨rfl, rfl, rfl, by decide +kernel, rfl, by decide +kernel, by decide +kernel⟩
abbrev s_p_counted : Stmt := topS 25
abbrev n_p_counted : List Str := ["items", "deeds", "choices", "item", "first", "second"]
theorem sc_p_counted : FnScope ["items", "deeds", "choices", "item", "first", "second"] ["items"] (defScope s_p_counted) := ⟨rfl, rfl, rfl, by decide +kernel, rfl, by decide +kernel, by decide +kernel⟩
abbrev s_p_depth_of : Stmt := topS 26
abbrev n_p_depth_of : List Str := ["named", "script"]
theorem sc_p_depth_of : FnScope ["named", "script"] ["named", "script"] (defScope s_p_depth_of) := ⟨rfl, rfl, rfl, by decide +kernel, rfl, by decide +kernel, by decide +kernel⟩
abbrev s_p_deepest : Stmt := topS 27
abbrev n_p_deepest : List Str := ["items", "item"]
theorem sc_p_deepest : FnScope ["items", "item"] ["items"] (defScope s_p_deepest) := ⟨rfl, rfl, rfl, by decide +kernel, rfl, by decide +kernel, by decide +kernel⟩
abbrev s_Lcup : Stmt := topS 29
abbrev n_Lcup : List Str := ["_law_script_here", "_law_cell"]
theorem sc_Lcup : FnScope ["_law_script_here", "_law_cell"] ["_law_script_here"] (defScope s_Lcup) := ⟨rfl, rfl, rfl, by decide +kernel, rfl, by decide +kernel, by decide +kernel⟩
abbrev s_Lroll : Stmt := topS 30
abbrev n_Lroll : List Str := ["_law_cup_here", "_law_many", "_law_found", "_law_deep"]
theorem sc_Lroll : FnScope ["_law_cup_here", "_law_many", "_law_found", "_law_deep"] ["_law_cup_here", "_law_many"] (defScope s_Lroll) := ⟨rfl, rfl, rfl, by decide +kernel, rfl, by decide +kernel, by decide +kernel⟩
abbrev s_Lsome : Stmt := topS 31
abbrev n_Lsome : List Str := ["_law_cup_here", "_law_things"]
theorem sc_Lsome : FnScope ["_law_cup_here", "_law_things"] ["_law_cup_here", "_law_things"] (defScope s_Lsome) := ⟨rfl, rfl, rfl, by decide +kernel, rfl, by decide +kernel, by decide +kernel⟩
abbrev s_Lare_whole : Stmt := topS 32
abbrev n_Lare_whole : List Str := ["_law_value", "_law_low", "_law_high", "_law_one"]
theorem sc_Lare_whole : FnScope ["_law_value", "_law_low", "_law_high", "_law_one"] ["_law_value", "_law_low", "_law_high"] (defScope s_Lare_whole) := ⟨rfl, rfl, rfl, by decide +kernel, rfl, by decide +kernel, by decide +kernel⟩
abbrev s_Lnamed : Stmt := topS 33
abbrev n_Lnamed : List Str := ["_law_cup_here"]
theorem sc_Lnamed : FnScope ["_law_cup_here"] ["_law_cup_here"] (defScope s_Lnamed) := ⟨rfl, rfl, rfl, by decide +kernel, rfl, by decide +kernel, by decide +kernel⟩
abbrev s_Lanswers : Stmt := topS 34
abbrev n_Lanswers : List Str := ["_law_cup_here", "_law_many", "_law_answer"]
theorem sc_Lanswers : FnScope ["_law_cup_here", "_law_many", "_law_answer"] ["_law_cup_here", "_law_many"] (defScope s_Lanswers) := ⟨rfl, rfl, rfl, by decide +kernel, rfl, by decide +kernel, by decide +kernel⟩
abbrev s_Ldeed : Stmt := topS 35
abbrev n_Ldeed : List Str := ["_law_cup_here", "_law_named_here", "_law_doer", "_law_some_here", "_law_other", "_law_person"]
theorem sc_Ldeed : FnScope ["_law_cup_here", "_law_named_here", "_law_doer", "_law_some_here", "_law_other", "_law_person"] ["_law_cup_here", "_law_named_here"] (defScope s_Ldeed) := ⟨rfl, rfl, rfl, by decide +kernel, rfl, by decide +kernel, by decide +kernel⟩
abbrev s_Litems : Stmt := topS 36
abbrev n_Litems : List Str := ["_law_cup_here", "_law_named_here", "_law_most", "_law_deep", "_law_found", "_law_turn", "_law_one", "_law_other", "_law_yes", "_law_no", "_law_person"]
theorem sc_Litems : FnScope ["_law_cup_here", "_law_named_here", "_law_most", "_law_deep", "_law_found", "_law_turn", "_law_one", "_law_other", "_law_yes", "_law_no", "_law_person"] ["_law_cup_here", "_law_named_here", "_law_most", "_law_deep"] (defScope s_Litems) := ⟨rfl, rfl, rfl, by decide +kernel, rfl, by decide +kernel, by decide +kernel⟩
abbrev s_Lcount : Stmt := topS 37
abbrev n_Lcount : List Str := ["_law_script_here", "_law_found", "_law_item"]
theorem sc_Lcount : FnScope ["_law_script_here", "_law_found", "_law_item"] ["_law_script_here"] (defScope s_Lcount) := ⟨rfl, rfl, rfl, by decide +kernel, rfl, by decide +kernel, by decide +kernel⟩
abbrev s_Lscript : Stmt := topS 38
abbrev n_Lscript : List Str := ["_law_cup_here", "_law_named_here", "_law_most", "_law_deep", "_law_found"]
theorem sc_Lscript : FnScope ["_law_cup_here", "_law_named_here", "_law_most", "_law_deep", "_law_found"] ["_law_cup_here", "_law_named_here", "_law_most", "_law_deep"] (defScope s_Lscript) := ⟨rfl, rfl, rfl, by decide +kernel, rfl, by decide +kernel, by decide +kernel⟩
abbrev s_Lis_two : Stmt := topS 39
abbrev n_Lis_two : List Str := ["_law_named_here", "_law_value"]
theorem sc_Lis_two : FnScope ["_law_named_here", "_law_value"] ["_law_named_here", "_law_value"] (defScope s_Lis_two) := ⟨rfl, rfl, rfl, by decide +kernel, rfl, by decide +kernel, by decide +kernel⟩
abbrev s_Lis_deed : Stmt := topS 40
abbrev n_Lis_deed : List Str := ["_law_named_here", "_law_value"]
theorem sc_Lis_deed : FnScope ["_law_named_here", "_law_value"] ["_law_named_here", "_law_value"] (defScope s_Lis_deed) := ⟨rfl, rfl, rfl, by decide +kernel, rfl, by decide +kernel, by decide +kernel⟩
abbrev s_Lmeasured : Stmt := topS 41
abbrev n_Lmeasured : List Str := ["_law_named_here", "_law_value", "_law_deeds", "_law_choices", "_law_deep", "_law_item", "_law_parts", "_law_part"]
theorem sc_Lmeasured : FnScope ["_law_named_here", "_law_value", "_law_deeds", "_law_choices", "_law_deep", "_law_item", "_law_parts", "_law_part"] ["_law_named_here", "_law_value"] (defScope s_Lmeasured) := ⟨rfl, rfl, rfl, by decide +kernel, rfl, by decide +kernel, by decide +kernel⟩
abbrev s_Ljudged : Stmt := topS 42
abbrev n_Ljudged : List Str := ["_law_named_here", "_law_value", "_law_told"]
theorem sc_Ljudged : FnScope ["_law_named_here", "_law_value", "_law_told"] ["_law_named_here", "_law_value"] (defScope s_Ljudged) := ⟨rfl, rfl, rfl, by decide +kernel, rfl, by decide +kernel, by decide +kernel⟩
abbrev s_Lbent : Stmt := topS 43
abbrev n_Lbent : List Str := ["_law_cup_here", "_law_script_here", "_law_odd", "_law_at", "_law_item", "_law_place", "_law_part", "_law_some_here"]
theorem sc_Lbent : FnScope ["_law_cup_here", "_law_script_here", "_law_odd", "_law_at", "_law_item", "_law_place", "_law_part", "_law_some_here"] ["_law_cup_here", "_law_script_here"] (defScope s_Lbent) := ⟨rfl, rfl, rfl, by decide +kernel, rfl, by decide +kernel, by decide +kernel⟩
abbrev s_Law : Stmt := topS 44
abbrev n_Law : List Str := ["_law_script_here", "_law_cup_here", "_law_turn", "_law_named_here", "_law_own", "_law_deeds", "_law_choices", "_law_deep", "_law_more", "_law_value", "_law_told", "_law_pairs", "_law_tie", "_law_rows", "_law_due"]
theorem sc_Law : FnScope ["_law_script_here", "_law_cup_here", "_law_turn", "_law_named_here", "_law_own", "_law_deeds", "_law_choices", "_law_deep", "_law_more", "_law_value", "_law_told", "_law_pairs", "_law_tie", "_law_rows", "_law_due"] ["_law_script_here"] (defScope s_Law) := ⟨rfl, rfl, rfl, by decide +kernel, rfl, by decide +kernel, by decide +kernel⟩
inductive Fid where
  | p_is_integer
  | p_is_between
  | p_is_tuple_of
  | p_are_answers
  | p_are_two_named
  | p_is_deed_of
  | p_is_asking
  | p_left_behind
  | p_left_behind_item
  | p_is_script_of
  | p_check_named
  | p_check_script
  | p_is_script
  | p_count_deeds
  | p_counted
  | p_depth_of
  | p_deepest
  | Lroll
  | Lsome
  | Lare_whole
  | Lnamed
  | Lanswers
  | Ldeed
  | Litems
  | Lcount
  | Lscript
  | Lis_two
  | Lis_deed
  | Lmeasured
  | Ljudged
  | Lbent
def g_Lcup : FL := mFunF 2 (mAsg (mFn oAbs (mCons (mOp oIx (mOp oAdd (mFn oList (mCons (mVar 0) mNil)) (mLst (mCons (mC (.int 0)) mNil))) (mC (.int 0))) mNil)) (tgName 1)) (mCons (mIf (mOp oGe (mVar 1) (mOp oPow (mC (.int 10)) (mC (.int 18)))) (mOp oDiv (mVar 1) (mC (.int 43))) (mC (.int 0))) (mCons (mOp oAdd (mOp oMod (mFn oInt (mCons (mOp oAdd (mOp oMul (mVar 1) (mC (.int 251))) (mC (.int 2111))) mNil)) (mC (.int 2077503301))) (mC (.int 137))) mNil))
def B_p_is_integer (cl : Fid → FC) : FS :=
    (mRet (mAnd (mIs "int" (mVar 0)) (mNot (mIs "bool" (mVar 0)))))
def B_p_is_between (cl : Fid → FC) : FS :=
    (mRet (mAnd (mCall (cl .p_is_integer) (mCons (mVar 0) mNil)) (mChain oLe oLe (mVar 1) (mVar 0) (mVar 2))))
def B_p_is_tuple_of (cl : Fid → FC) : FS :=
    (mRet (mAnd (mIs "tuple" (mVar 0)) (mOp oEq (mFn oLen (mCons (mVar 0) mNil)) (mVar 1))))
def B_p_are_answers (cl : Fid → FC) : FS :=
    (mRet (mAnd (mCall (cl .p_is_tuple_of) (mCons (mVar 0) (mCons (mVar 1) mNil))) (mFn oAll (mCons (mLc itemsT (mVar 0) (tgName 2) mYes (mCall (cl .p_is_between) (mCons (mVar 2) (mCons (mC (.int 0)) (mCons (mC (.int 1)) mNil)))) [2]) mNil))))
def B_p_are_two_named (cl : Fid → FC) : FS :=
    (mRet (mAnd (mCall (cl .p_is_between) (mCons (mVar 1) (mCons (mC (.int 0)) (mCons (mOp oSub (mVar 0) (mC (.int 1))) mNil)))) (mAnd (mCall (cl .p_is_between) (mCons (mVar 2) (mCons (mC (.int 0)) (mCons (mOp oSub (mVar 0) (mC (.int 1))) mNil)))) (mOp oNe (mVar 1) (mVar 2)))))
def B_p_is_deed_of (cl : Fid → FC) : FS :=
    (mSeq (mIfS (mB (mAnd (mCall (cl .p_is_tuple_of) (mCons (mVar 1) (mCons (mC (.int 3)) mNil))) (mOp oEq (mOp oIx (mVar 1) (mC (.int 0))) (mC (.str "pairs"))))) (mRet (mAnd (mCall (cl .p_is_between) (mCons (mOp oIx (mVar 1) (mC (.int 1))) (mCons (mC (.int 0)) (mCons (mOp oSub (mVar 0) (mC (.int 1))) mNil)))) (mCall (cl .p_are_answers) (mCons (mOp oIx (mVar 1) (mC (.int 2))) (mCons (mC (.int 6)) mNil))))) mSkip)
    (mSeq (mIfS (mB (mOr (mNot (mCall (cl .p_is_tuple_of) (mCons (mVar 1) (mCons (mC (.int 4)) mNil)))) (mNot (mCall (cl .p_are_two_named) (mCons (mVar 0) (mCons (mOp oIx (mVar 1) (mC (.int 1))) (mCons (mOp oIx (mVar 1) (mC (.int 2))) mNil))))))) (mRet (mC (.bl false))) mSkip)
    (mSeq (mIfS (mB (mOp oEq (mOp oIx (mVar 1) (mC (.int 0))) (mC (.str "takes")))) (mRet (mCall (cl .p_are_answers) (mCons (mOp oIx (mVar 1) (mC (.int 3))) (mCons (mC (.int 4)) mNil)))) mSkip)
    (mRet (mAnd (mOp oEq (mOp oIx (mVar 1) (mC (.int 0))) (mC (.str "tie"))) (mOp oIn (mOp oIx (mVar 1) (mC (.int 3))) (mC (.tup [(.str "know"), (.str "part"), (.str "turn")]))))))))
def B_p_is_asking (cl : Fid → FC) : FS :=
    (mSeq (mIfS (mB (mOr (mNot (mCall (cl .p_is_tuple_of) (mCons (mVar 1) (mCons (mC (.int 5)) mNil)))) (mOp oNe (mOp oIx (mVar 1) (mC (.int 0))) (mC (.str "ask"))))) (mRet (mC (.bl false))) mSkip)
    (mRet (mCall (cl .p_are_two_named) (mCons (mVar 0) (mCons (mOp oIx (mVar 1) (mC (.int 1))) (mCons (mOp oIx (mVar 1) (mC (.int 2))) mNil))))))
def B_p_left_behind (cl : Fid → FC) : FS :=
    (mSeq (mIfS (mB (mOr (mNot (mIs "tuple" (mVar 1))) (mOp oGt (mFn oLen (mCons (mVar 1) mNil)) (mVar 3)))) (mRet (mUn oNeg (mC (.int 1)))) mSkip)
    (mSeq (mAsg (mOp oSub (mVar 3) (mFn oLen (mCons (mVar 1) mNil))) (tgName 3))
    (mSeq (mFor itemsT (mVar 1) (tgName 4) (mAsg (mCall (cl .p_left_behind_item) (mCons (mVar 0) (mCons (mVar 4) (mCons (mVar 2) (mCons (mVar 3) mNil))))) (tgName 3)))
    (mRet (mVar 3)))))
def B_p_left_behind_item (cl : Fid → FC) : FS :=
    (mSeq (mIfS (mB (mCall (cl .p_is_deed_of) (mCons (mVar 0) (mCons (mVar 1) mNil)))) (mRet (mVar 3)) mSkip)
    (mSeq (mIfS (mB (mOr (mOp oEq (mVar 2) (mC (.int 0))) (mNot (mCall (cl .p_is_asking) (mCons (mVar 0) (mCons (mVar 1) mNil)))))) (mRet (mUn oNeg (mC (.int 1)))) mSkip)
    (mSeq (mAsg (mCall (cl .p_left_behind) (mCons (mVar 0) (mCons (mOp oIx (mVar 1) (mC (.int 3))) (mCons (mOp oSub (mVar 2) (mC (.int 1))) (mCons (mVar 3) mNil))))) (tgName 3))
    (mRet (mCall (cl .p_left_behind) (mCons (mVar 0) (mCons (mOp oIx (mVar 1) (mC (.int 4))) (mCons (mOp oSub (mVar 2) (mC (.int 1))) (mCons (mVar 3) mNil)))))))))
def B_p_is_script_of (cl : Fid → FC) : FS :=
    (mRet (mOp oGe (mCall (cl .p_left_behind) (mCons (mVar 0) (mCons (mVar 1) (mCons (mC (.int 4)) (mCons (mC (.int 30)) mNil))))) (mC (.int 0))))
def B_p_check_named (cl : Fid → FC) : FS :=
    (mIfS (mB (mNot (mCall (cl .p_is_between) (mCons (mVar 0) (mCons (mC (.int 1)) (mCons (mC (.int 3)) mNil)))))) mNever mSkip)
def B_p_check_script (cl : Fid → FC) : FS :=
    (mSeq (mDrop (mCall (cl .p_check_named) (mCons (mVar 0) mNil)))
    (mIfS (mB (mNot (mCall (cl .p_is_script_of) (mCons (mVar 0) (mCons (mVar 1) mNil))))) mNever mSkip))
def B_p_is_script (cl : Fid → FC) : FS :=
    (mSeq (mDrop (mCall (cl .p_check_named) (mCons (mVar 0) mNil)))
    (mRet (mCall (cl .p_is_script_of) (mCons (mVar 0) (mCons (mVar 1) mNil)))))
def B_p_count_deeds (cl : Fid → FC) : FS :=
    (mSeq (mDrop (mCall (cl .p_check_script) (mCons (mVar 0) (mCons (mVar 1) mNil))))
    (mRet (mCall (cl .p_counted) (mCons (mVar 1) mNil))))
def B_p_counted (cl : Fid → FC) : FS :=
    (mSeq (mAsg (mC (.int 0)) (tgName 1))
    (mSeq (mAsg (mC (.int 0)) (tgName 2))
    (mSeq (mFor itemsT (mVar 0) (tgName 3) (mIfS (mB (mOp oEq (mOp oIx (mVar 3) (mC (.int 0))) (mC (.str "ask")))) (mSeq (mPar2 4 5 (mCons (mCall (cl .p_counted) (mCons (mOp oIx (mVar 3) (mC (.int 3))) mNil)) (mCons (mCall (cl .p_counted) (mCons (mOp oIx (mVar 3) (mC (.int 4))) mNil)) mNil)))
    (mSeq (mAsg (mOp oAdd (mOp oAdd (mVar 1) (mOp oIx (mVar 4) (mC (.int 0)))) (mOp oIx (mVar 5) (mC (.int 0)))) (tgName 1))
    (mAsg (mOp oAdd (mOp oAdd (mOp oAdd (mVar 2) (mOp oIx (mVar 4) (mC (.int 1)))) (mOp oIx (mVar 5) (mC (.int 1)))) (mC (.int 1))) (tgName 2)))) (mAsg (mOp oAdd (mVar 1) (mC (.int 1))) (tgName 1))))
    (mRet (mTup (mCons (mVar 1) (mCons (mVar 2) mNil)))))))
def B_p_depth_of (cl : Fid → FC) : FS :=
    (mSeq (mDrop (mCall (cl .p_check_script) (mCons (mVar 0) (mCons (mVar 1) mNil))))
    (mRet (mCall (cl .p_deepest) (mCons (mVar 1) mNil))))
def B_p_deepest (cl : Fid → FC) : FS :=
    (mRet (mFn oMax (mCons (mOp oAdd (mLst (mCons (mC (.int 0)) mNil)) (mLc itemsT (mVar 0) (tgName 1) (mB (mOp oEq (mOp oIx (mVar 1) (mC (.int 0))) (mC (.str "ask")))) (mOp oAdd (mC (.int 1)) (mFn oMax (mCons (mCall (cl .p_deepest) (mCons (mOp oIx (mVar 1) (mC (.int 3))) mNil)) (mCons (mCall (cl .p_deepest) (mCons (mOp oIx (mVar 1) (mC (.int 4))) mNil)) mNil)))) [1])) mNil)))
def B_Lroll (cl : Fid → FC) : FS :=
    (mSeq (mIfS (mB (mOp oGt (mOp oIx (mVar 0) (mC (.int 0))) (mC (.int 0)))) (mSeq (mAsg (mOp oMod (mFn oInt (mCons (mOp oIx (mVar 0) (mC (.int 0))) mNil)) (mVar 1)) (tgName 2))
    (mSeq (mStore (mOp oDiv (mOp oIx (mVar 0) (mC (.int 0))) (mVar 1)) (mVar 0) (mC (.int 0)))
    (mRet (mVar 2)))) mSkip)
    (mSeq (mStore (mOp oMod (mFn oInt (mCons (mOp oAdd (mOp oMul (mOp oIx (mVar 0) (mC (.int 1))) (mC (.int 30983))) (mC (.int 7933))) mNil)) (mC (.int 2147483563))) (mVar 0) (mC (.int 1)))
    (mSeq (mAsg (mOp oMod (mFn oInt (mCons (mOp oMul (mOp oIx (mVar 0) (mC (.int 1))) (mOp oAdd (mOp oIx (mVar 0) (mC (.int 1))) (mC (.int 197)))) mNil)) (mC (.int 2147483587))) (tgName 3))
    (mRet (mOp oMod (mFn oInt (mCons (mOp oDiv (mVar 3) (mC (.int 773))) mNil)) (mVar 1))))))
def B_Lsome (cl : Fid → FC) : FS :=
    (mRet (mOp oIx (mVar 1) (mCall (cl .Lroll) (mCons (mVar 0) (mCons (mFn oLen (mCons (mVar 1) mNil)) mNil)))))
def B_Lare_whole (cl : Fid → FC) : FS :=
    (mSeq (mIfS (mB (mNot (mIs "tuple" (mVar 0)))) (mRet (mC (.bl false))) mSkip)
    (mRet (mOp oEq (mLc itemsT (mVar 0) (tgName 3) (mB (mOr (mIs "bool" (mVar 3)) (mOr (mNot (mIs "int" (mVar 3))) (mNot (mChain oLe oLe (mVar 1) (mVar 3) (mVar 2)))))) (mC (.int 1)) [3]) (mLst mNil))))
def B_Lnamed (cl : Fid → FC) : FS :=
    (mRet (mCall (cl .Lsome) (mCons (mVar 0) (mCons (mLst (mCons (mC (.int 1)) (mCons (mC (.int 1)) (mCons (mC (.int 2)) (mCons (mC (.int 2)) (mCons (mC (.int 2)) (mCons (mC (.int 2)) (mCons (mC (.int 2)) (mCons (mC (.int 3)) mNil))))))))) mNil))))
def B_Lanswers (cl : Fid → FC) : FS :=
    (mRet (mFn oTuple (mCons (mLcR rng1 (mCons (mVar 1) mNil) (tgName 2) mYes (mCall (cl .Lroll) (mCons (mVar 0) (mCons (mC (.int 2)) mNil))) [2]) mNil)))
def B_Ldeed (cl : Fid → FC) : FS :=
    (mSeq (mAsg (mCall (cl .Lroll) (mCons (mVar 0) (mCons (mVar 1) mNil))) (tgName 2))
    (mSeq (mIfS (mB (mOr (mOp oEq (mVar 1) (mC (.int 1))) (mOp oLt (mCall (cl .Lroll) (mCons (mVar 0) (mCons (mC (.int 5)) mNil))) (mC (.int 2))))) (mSeq (mAsg (mLst (mCons (mTup (mCons (mC (.int 0)) (mCons (mC (.int 0)) (mCons (mC (.int 1)) (mCons (mC (.int 1)) (mCons (mC (.int 1)) (mCons (mC (.int 1)) mNil))))))) (mCons (mTup (mCons (mC (.int 0)) (mCons (mC (.int 0)) (mCons (mC (.int 0)) (mCons (mC (.int 1)) (mCons (mC (.int 1)) (mCons (mC (.int 0)) mNil))))))) (mCons (mTup (mCons (mC (.int 1)) (mCons (mC (.int 0)) (mCons (mC (.int 0)) (mCons (mC (.int 1)) (mCons (mC (.int 1)) (mCons (mC (.int 1)) mNil))))))) (mCons (mTup (mCons (mC (.int 0)) (mCons (mC (.int 0)) (mCons (mC (.int 1)) (mCons (mC (.int 1)) (mCons (mC (.int 1)) (mCons (mC (.int 0)) mNil))))))) (mCons (mTup (mCons (mC (.int 1)) (mCons (mC (.int 1)) (mCons (mC (.int 1)) (mCons (mC (.int 0)) (mCons (mC (.int 0)) (mCons (mC (.int 0)) mNil))))))) (mCons (mTup (mCons (mC (.int 0)) (mCons (mC (.int 0)) (mCons (mC (.int 0)) (mCons (mC (.int 1)) (mCons (mC (.int 1)) (mCons (mC (.int 1)) mNil))))))) (mCons (mTup (mCons (mC (.int 0)) (mCons (mC (.int 1)) (mCons (mC (.int 0)) (mCons (mC (.int 0)) (mCons (mC (.int 1)) (mCons (mC (.int 0)) mNil))))))) mNil)))))))) (tgName 3))
    (mRet (mTup (mCons (mC (.str "pairs")) (mCons (mVar 2) (mCons (mCall (cl .Lsome) (mCons (mVar 0) (mCons (mOp oAdd (mVar 3) (mLst (mCons (mCall (cl .Lanswers) (mCons (mVar 0) (mCons (mC (.int 6)) mNil))) (mCons (mCall (cl .Lanswers) (mCons (mVar 0) (mCons (mC (.int 6)) mNil))) (mCons (mCall (cl .Lanswers) (mCons (mVar 0) (mCons (mC (.int 6)) mNil))) mNil))))) mNil))) mNil)))))) mSkip)
    (mSeq (mAsg (mCall (cl .Lsome) (mCons (mVar 0) (mCons (mLcR rng1 (mCons (mVar 1) mNil) (tgName 5) (mB (mOp oNe (mVar 5) (mVar 2))) (mVar 5) [5]) mNil))) (tgName 4))
    (mSeq (mIfS (mB (mOp oGt (mCall (cl .Lroll) (mCons (mVar 0) (mCons (mC (.int 3)) mNil))) (mC (.int 0)))) (mSeq (mAsg (mLst (mCons (mTup (mCons (mC (.int 0)) (mCons (mC (.int 1)) (mCons (mC (.int 0)) (mCons (mC (.int 1)) mNil))))) (mCons (mTup (mCons (mC (.int 0)) (mCons (mC (.int 1)) (mCons (mC (.int 1)) (mCons (mC (.int 0)) mNil))))) (mCons (mTup (mCons (mC (.int 0)) (mCons (mC (.int 1)) (mCons (mC (.int 1)) (mCons (mC (.int 1)) mNil))))) (mCons (mTup (mCons (mC (.int 0)) (mCons (mC (.int 0)) (mCons (mC (.int 0)) (mCons (mC (.int 1)) mNil))))) (mCons (mTup (mCons (mC (.int 0)) (mCons (mC (.int 0)) (mCons (mC (.int 1)) (mCons (mC (.int 1)) mNil))))) (mCons (mCall (cl .Lanswers) (mCons (mVar 0) (mCons (mC (.int 4)) mNil))) (mCons (mCall (cl .Lanswers) (mCons (mVar 0) (mCons (mC (.int 4)) mNil))) mNil)))))))) (tgName 3))
    (mRet (mTup (mCons (mC (.str "takes")) (mCons (mVar 2) (mCons (mVar 4) (mCons (mCall (cl .Lsome) (mCons (mVar 0) (mCons (mVar 3) mNil))) mNil))))))) mSkip)
    (mRet (mTup (mCons (mC (.str "tie")) (mCons (mVar 2) (mCons (mVar 4) (mCons (mCall (cl .Lsome) (mCons (mVar 0) (mCons (mLst (mCons (mC (.str "know")) (mCons (mC (.str "part")) (mCons (mC (.str "turn")) mNil)))) mNil))) mNil))))))))))
def B_Litems (cl : Fid → FC) : FS :=
    (mSeq (mAsg (mTup mNil) (tgName 4))
    (mSeq (mForR rng1 (mCons (mCall (cl .Lroll) (mCons (mVar 0) (mCons (mOp oAdd (mVar 2) (mC (.int 1))) mNil))) mNil) (tgName 5) (mIfS (mB (mAnd (mOp oGt (mVar 1) (mC (.int 1))) (mAnd (mOp oGt (mVar 3) (mC (.int 0))) (mOp oEq (mCall (cl .Lroll) (mCons (mVar 0) (mCons (mC (.int 4)) mNil))) (mC (.int 0)))))) (mSeq (mAsg (mCall (cl .Lroll) (mCons (mVar 0) (mCons (mVar 1) mNil))) (tgName 6))
    (mSeq (mAsg (mCall (cl .Lsome) (mCons (mVar 0) (mCons (mLcR rng1 (mCons (mVar 1) mNil) (tgName 10) (mB (mOp oNe (mVar 10) (mVar 6))) (mVar 10) [10]) mNil))) (tgName 7))
    (mSeq (mPar2 8 9 (mCons (mCall (cl .Litems) (mCons (mVar 0) (mCons (mVar 1) (mCons (mOp oDiv (mVar 2) (mC (.int 2))) (mCons (mOp oSub (mVar 3) (mC (.int 1))) mNil))))) (mCons (mCall (cl .Litems) (mCons (mVar 0) (mCons (mVar 1) (mCons (mOp oDiv (mVar 2) (mC (.int 2))) (mCons (mOp oSub (mVar 3) (mC (.int 1))) mNil))))) mNil)))
    (mAsg (mOp oAdd (mVar 4) (mTup (mCons (mTup (mCons (mC (.str "ask")) (mCons (mVar 6) (mCons (mVar 7) (mCons (mVar 8) (mCons (mVar 9) mNil)))))) mNil))) (tgName 4))))) (mAsg (mOp oAdd (mVar 4) (mTup (mCons (mCall (cl .Ldeed) (mCons (mVar 0) (mCons (mVar 1) mNil))) mNil))) (tgName 4))))
    (mRet (mVar 4))))
def B_Lcount (cl : Fid → FC) : FS :=
    (mSeq (mAsg (mC (.int 0)) (tgName 1))
    (mSeq (mFor itemsT (mVar 0) (tgName 2) (mAsg (mOp oAdd (mOp oAdd (mVar 1) (mC (.int 1))) (mIf (mOp oEq (mOp oIx (mVar 2) (mC (.int 0))) (mC (.str "ask"))) (mOp oAdd (mCall (cl .Lcount) (mCons (mOp oIx (mVar 2) (mC (.int 3))) mNil)) (mCall (cl .Lcount) (mCons (mOp oIx (mVar 2) (mC (.int 4))) mNil))) (mC (.int 0)))) (tgName 1)))
    (mRet (mVar 1))))
def B_Lscript (cl : Fid → FC) : FS :=
    (mSeq (mAsg (mCall (cl .Litems) (mCons (mVar 0) (mCons (mVar 1) (mCons (mVar 2) (mCons (mVar 3) mNil))))) (tgName 4))
    (mSeq (whileD (mB (mOp oGt (mCall (cl .Lcount) (mCons (mVar 4) mNil)) (mC (.int 30)))) (mAsg (mSl (mVar 4) (mPart (mC (.int 1))) mNo) (tgName 4)) 100)
    (mRet (mVar 4))))
def B_Lis_two (cl : Fid → FC) : FS :=
    (mRet (mAnd (mCall (cl .Lare_whole) (mCons (mVar 1) (mCons (mC (.int 0)) (mCons (mOp oSub (mVar 0) (mC (.int 1))) mNil)))) (mAnd (mOp oEq (mFn oLen (mCons (mVar 1) mNil)) (mC (.int 2))) (mOp oNe (mOp oIx (mVar 1) (mC (.int 0))) (mOp oIx (mVar 1) (mC (.int 1)))))))
def B_Lis_deed (cl : Fid → FC) : FS :=
    (mSeq (mIfS (mB (mOp oEq (mOp oIx (mVar 1) (mC (.int 0))) (mC (.str "pairs")))) (mRet (mAnd (mOp oEq (mFn oLen (mCons (mVar 1) mNil)) (mC (.int 3))) (mAnd (mCall (cl .Lare_whole) (mCons (mSl (mVar 1) (mPart (mC (.int 1))) (mPart (mC (.int 2)))) (mCons (mC (.int 0)) (mCons (mOp oSub (mVar 0) (mC (.int 1))) mNil)))) (mAnd (mCall (cl .Lare_whole) (mCons (mOp oIx (mVar 1) (mC (.int 2))) (mCons (mC (.int 0)) (mCons (mC (.int 1)) mNil)))) (mOp oEq (mFn oLen (mCons (mOp oIx (mVar 1) (mC (.int 2))) mNil)) (mC (.int 6))))))) mSkip)
    (mSeq (mIfS (mB (mOr (mOp oNe (mFn oLen (mCons (mVar 1) mNil)) (mC (.int 4))) (mNot (mCall (cl .Lis_two) (mCons (mVar 0) (mCons (mSl (mVar 1) (mPart (mC (.int 1))) (mPart (mC (.int 3)))) mNil)))))) (mRet (mC (.bl false))) mSkip)
    (mSeq (mIfS (mB (mOp oEq (mOp oIx (mVar 1) (mC (.int 0))) (mC (.str "takes")))) (mRet (mAnd (mCall (cl .Lare_whole) (mCons (mOp oIx (mVar 1) (mC (.int 3))) (mCons (mC (.int 0)) (mCons (mC (.int 1)) mNil)))) (mOp oEq (mFn oLen (mCons (mOp oIx (mVar 1) (mC (.int 3))) mNil)) (mC (.int 4))))) mSkip)
    (mRet (mAnd (mOp oEq (mOp oIx (mVar 1) (mC (.int 0))) (mC (.str "tie"))) (mAnd (mIs "str" (mOp oIx (mVar 1) (mC (.int 3)))) (mOp oIn (mOp oIx (mVar 1) (mC (.int 3))) (mTup (mCons (mC (.str "know")) (mCons (mC (.str "part")) (mCons (mC (.str "turn")) mNil)))))))))))
def B_Lmeasured (cl : Fid → FC) : FS :=
    (mSeq (mIfS (mB (mNot (mIs "tuple" (mVar 1)))) (mRet (mC .non)) mSkip)
    (mSeq (mAsg (mTup (mCons (mC (.int 0)) (mCons (mC (.int 0)) (mCons (mC (.int 0)) mNil)))) (tgTup 3 (tgCons (tgName 2) (tgCons (tgName 3) (tgCons (tgName 4) tgNil)))))
    (mSeq (mFor itemsT (mVar 1) (tgName 5) (mSeq (mIfS (mB (mOr (mNot (mIs "tuple" (mVar 5))) (mOr (mOp oEq (mVar 5) (mTup mNil)) (mNot (mIs "str" (mOp oIx (mVar 5) (mC (.int 0)))))))) (mRet (mC .non)) mSkip)
    (mIfS (mB (mOp oEq (mOp oIx (mVar 5) (mC (.int 0))) (mC (.str "ask")))) (mSeq (mIfS (mB (mOr (mOp oNe (mFn oLen (mCons (mVar 5) mNil)) (mC (.int 5))) (mNot (mCall (cl .Lis_two) (mCons (mVar 0) (mCons (mSl (mVar 5) (mPart (mC (.int 1))) (mPart (mC (.int 3)))) mNil)))))) (mRet (mC .non)) mSkip)
    (mSeq (mSet 6 (mLc itemsT (mSl (mVar 5) (mPart (mC (.int 3))) mNo) (tgName 7) mYes (mCall (cl .Lmeasured) (mCons (mVar 0) (mCons (mVar 7) mNil))) [7]))
    (mSeq (mIfS (mB (mOp oIn (mC .non) (mVar 6))) (mRet (mC .non)) mSkip)
    (mSeq (mPar2 2 3 (mCons (mOp oAdd (mOp oAdd (mVar 2) (mOp oIx (mOp oIx (mVar 6) (mC (.int 0))) (mC (.int 0)))) (mOp oIx (mOp oIx (mVar 6) (mC (.int 1))) (mC (.int 0)))) (mCons (mOp oAdd (mOp oAdd (mOp oAdd (mVar 3) (mC (.int 1))) (mOp oIx (mOp oIx (mVar 6) (mC (.int 0))) (mC (.int 1)))) (mOp oIx (mOp oIx (mVar 6) (mC (.int 1))) (mC (.int 1)))) mNil)))
    (mAsg (mFn oMax (mCons (mVar 4) (mCons (mOp oAdd (mC (.int 1)) (mOp oIx (mOp oIx (mVar 6) (mC (.int 0))) (mC (.int 2)))) (mCons (mOp oAdd (mC (.int 1)) (mOp oIx (mOp oIx (mVar 6) (mC (.int 1))) (mC (.int 2)))) mNil)))) (tgName 4)))))) (mIfS (mB (mCall (cl .Lis_deed) (mCons (mVar 0) (mCons (mVar 5) mNil)))) (mAsg (mOp oAdd (mVar 2) (mC (.int 1))) (tgName 2)) (mRet (mC .non))))))
    (mRet (mTup (mCons (mVar 2) (mCons (mVar 3) (mCons (mVar 4) mNil))))))))
def B_Ljudged (cl : Fid → FC) : FS :=
    (mSeq (mAsg (mCall (cl .Lmeasured) (mCons (mVar 0) (mCons (mVar 1) mNil))) (tgName 2))
    (mRet (mAnd (mOp oIsNot (mVar 2) (mC .non)) (mAnd (mOp oLe (mOp oAdd (mOp oIx (mVar 2) (mC (.int 0))) (mOp oIx (mVar 2) (mC (.int 1)))) (mC (.int 30))) (mOp oLe (mOp oIx (mVar 2) (mC (.int 2))) (mC (.int 4)))))))
def B_Lbent (cl : Fid → FC) : FS :=
    (mSeq (mAsg (mCall (cl .Lsome) (mCons (mVar 0) (mCons (mLst (mCons (mUn oNeg (mC (.int 1))) (mCons (mC (.int 0)) (mCons (mC (.int 1)) (mCons (mC (.int 2)) (mCons (mC (.int 3)) (mCons (mC .non) (mCons (mC (.bl true)) (mCons (mC (.str "tie")) (mCons (mC (.str "ask")) (mCons (mC (.str "know")) (mCons (mTup mNil) (mCons (mTup (mCons (mC (.int 0)) (mCons (mC (.int 1)) mNil))) (mCons (mTup (mCons (mC (.int 0)) (mCons (mC (.int 1)) (mCons (mC (.int 1)) (mCons (mC (.int 0)) mNil))))) mNil)))))))))))))) mNil))) (tgName 2))
    (mSeq (mIfS (mB (mOr (mOp oEq (mVar 1) (mTup mNil)) (mOp oEq (mCall (cl .Lroll) (mCons (mVar 0) (mCons (mC (.int 6)) mNil))) (mC (.int 0))))) (mRet (mCall (cl .Lsome) (mCons (mVar 0) (mCons (mLst (mCons (mVar 2) (mCons (mOp oAdd (mVar 1) (mTup (mCons (mVar 2) mNil))) (mCons (mFn oList (mCons (mVar 1) mNil)) (mCons (mTup (mCons (mVar 1) mNil)) (mCons (mOp oAdd (mOp oAdd (mOp oAdd (mVar 1) (mVar 1)) (mVar 1)) (mVar 1)) mNil)))))) mNil)))) mSkip)
    (mSeq (mAsg (mCall (cl .Lroll) (mCons (mVar 0) (mCons (mFn oLen (mCons (mVar 1) mNil)) mNil))) (tgName 3))
    (mSeq (mAsg (mOp oIx (mVar 1) (mVar 3)) (tgName 4))
    (mSeq (mAsg (mCall (cl .Lroll) (mCons (mVar 0) (mCons (mFn oLen (mCons (mVar 4) mNil)) mNil))) (tgName 5))
    (mSeq (mAsg (mOp oIx (mVar 4) (mVar 5)) (tgName 6))
    (mSeq (mAsg (mLst (mCons (mOp oAdd (mOp oAdd (mSl (mVar 4) mNo (mPart (mVar 5))) (mTup (mCons (mVar 2) mNil))) (mSl (mVar 4) (mPart (mOp oAdd (mVar 5) (mC (.int 1)))) mNo)) (mCons (mOp oAdd (mSl (mVar 4) mNo (mPart (mVar 5))) (mSl (mVar 4) (mPart (mOp oAdd (mVar 5) (mC (.int 1)))) mNo)) (mCons (mOp oAdd (mVar 4) (mTup (mCons (mVar 2) mNil))) (mCons (mFn oList (mCons (mVar 4) mNil)) mNil))))) (tgName 7))
    (mSeq (mIfS (mB (mIs "tuple" (mVar 6))) (mAsg (mOp oAdd (mVar 7) (mOp oMul (mLst (mCons (mOp oAdd (mOp oAdd (mSl (mVar 4) mNo (mPart (mVar 5))) (mTup (mCons (mIf (mOp oEq (mOp oIx (mVar 4) (mC (.int 0))) (mC (.str "ask"))) (mCall (cl .Lbent) (mCons (mVar 0) (mCons (mVar 6) mNil))) (mOp oAdd (mSl (mVar 6) (mPart (mC (.int 1))) mNo) (mTup (mCons (mVar 2) mNil)))) mNil))) (mSl (mVar 4) (mPart (mOp oAdd (mVar 5) (mC (.int 1)))) mNo)) mNil)) (mC (.int 3)))) (tgName 7)) mSkip)
    (mRet (mOp oAdd (mOp oAdd (mSl (mVar 1) mNo (mPart (mVar 3))) (mTup (mCons (mCall (cl .Lsome) (mCons (mVar 0) (mCons (mVar 7) mNil))) mNil))) (mSl (mVar 1) (mPart (mOp oAdd (mVar 3) (mC (.int 1)))) mNo)))))))))))
def B_Law (cl : Fid → FC) : FS :=
    (mMu 1 g_Lcup (mCons (mVar 0) mNil) (mSeq (mForR rng1 (mCons (mC (.int 6)) mNil) (tgName 2) (mSeq (mAsg (mCall (cl .Lnamed) (mCons (mVar 1) mNil)) (tgName 3))
    (mSeq (mAsg (mCall (cl .Lscript) (mCons (mVar 1) (mCons (mVar 3) (mCons (mC (.int 6)) (mCons (mC (.int 3)) mNil))))) (tgName 4))
    (mSeq (mAsg (mCall (cl .Lmeasured) (mCons (mVar 3) (mCons (mVar 4) mNil))) (tgTup 3 (tgCons (tgName 5) (tgCons (tgName 6) (tgCons (tgName 7) tgNil)))))
    (mSeq (mIfS (mB (mOr (mOp oIsNot (mCall (cl .p_is_script) (mCons (mVar 3) (mCons (mVar 4) mNil))) (mC (.bl true))) (mOr (mOp oNe (mCall (cl .p_count_deeds) (mCons (mVar 3) (mCons (mVar 4) mNil))) (mTup (mCons (mVar 5) (mCons (mVar 6) mNil)))) (mOp oNe (mCall (cl .p_depth_of) (mCons (mVar 3) (mCons (mVar 4) mNil))) (mVar 7))))) (mRet (mC (.bl false))) mSkip)
    (mForR rng1 (mCons (mC (.int 4)) mNil) (tgName 8) (mSeq (mAsg (mCall (cl .Lbent) (mCons (mVar 1) (mCons (mVar 4) mNil))) (tgName 9))
    (mSeq (mAsg (mCall (cl .p_is_script) (mCons (mVar 3) (mCons (mVar 9) mNil))) (tgName 10))
    (mIfS (mB (mOr (mNot (mIs "bool" (mVar 10))) (mOp oNe (mVar 10) (mCall (cl .Ljudged) (mCons (mVar 3) (mCons (mVar 9) mNil)))))) (mRet (mC (.bl false))) mSkip)))))))))
    (mSeq (mAsg (mTup (mCons (mTup (mCons (mC (.str "pairs")) (mCons (mC (.int 0)) (mCons (mTup (mCons (mC (.int 0)) (mCons (mC (.int 0)) (mCons (mC (.int 1)) (mCons (mC (.int 1)) (mCons (mC (.int 1)) (mCons (mC (.int 1)) mNil))))))) mNil)))) (mCons (mTup (mCons (mC (.str "tie")) (mCons (mC (.int 0)) (mCons (mC (.int 1)) (mCons (mC (.str "turn")) mNil))))) mNil))) (tgTup 2 (tgCons (tgName 11) (tgCons (tgName 12) tgNil))))
    (mSeq (mAsg (mTup mNil) (tgName 7))
    (mSeq (mForR rng1 (mCons (mC (.int 4)) mNil) (tgName 2) (mAsg (mTup (mCons (mTup (mCons (mC (.str "ask")) (mCons (mC (.int 0)) (mCons (mC (.int 1)) (mCons (mVar 7) (mCons (mTup (mCons (mVar 12) mNil)) mNil)))))) mNil)) (tgName 7)))
    (mSeq (mAsg (mLst (mCons (mTup (mCons (mC (.int 2)) (mCons (mTup mNil) (mCons (mC (.bl true)) mNil)))) (mCons (mTup (mCons (mC (.int 1)) (mCons (mTup (mCons (mVar 11) mNil)) (mCons (mC (.bl true)) mNil)))) (mCons (mTup (mCons (mC (.int 1)) (mCons (mTup (mCons (mVar 12) mNil)) (mCons (mC (.bl false)) mNil)))) (mCons (mTup (mCons (mC (.int 2)) (mCons (mOp oMul (mTup (mCons (mVar 12) mNil)) (mC (.int 30))) (mCons (mC (.bl true)) mNil)))) (mCons (mTup (mCons (mC (.int 2)) (mCons (mOp oMul (mTup (mCons (mVar 12) mNil)) (mC (.int 31))) (mCons (mC (.bl false)) mNil)))) (mCons (mTup (mCons (mC (.int 2)) (mCons (mVar 7) (mCons (mC (.bl true)) mNil)))) (mCons (mTup (mCons (mC (.int 2)) (mCons (mTup (mCons (mTup (mCons (mC (.str "ask")) (mCons (mC (.int 1)) (mCons (mC (.int 0)) (mCons (mVar 7) (mCons (mTup mNil) mNil)))))) mNil)) (mCons (mC (.bl false)) mNil)))) mNil)))))))) (tgName 13))
    (mSeq (mAsg (mOp oAdd (mVar 13) (mLst (mCons (mTup (mCons (mC (.int 2)) (mCons (mTup (mCons (mTup (mCons (mC (.str "ask")) (mCons (mC (.int 0)) (mCons (mC (.int 0)) (mCons (mTup mNil) (mCons (mTup mNil) mNil)))))) mNil)) (mCons (mC (.bl false)) mNil)))) (mCons (mTup (mCons (mC (.int 1)) (mCons (mTup (mCons (mTup (mCons (mC (.str "ask")) (mCons (mC (.int 0)) (mCons (mC (.int 0)) (mCons (mTup mNil) (mCons (mTup mNil) mNil)))))) mNil)) (mCons (mC (.bl false)) mNil)))) (mCons (mTup (mCons (mC (.int 2)) (mCons (mTup (mCons (mTup (mCons (mC (.str "tie")) (mCons (mC (.int 0)) (mCons (mC (.int 2)) (mCons (mC (.str "know")) mNil))))) mNil)) (mCons (mC (.bl false)) mNil)))) (mCons (mTup (mCons (mC (.int 3)) (mCons (mTup (mCons (mTup (mCons (mC (.str "tie")) (mCons (mC (.int 2)) (mCons (mC (.int 0)) (mCons (mC (.str "know")) mNil))))) mNil)) (mCons (mC (.bl true)) mNil)))) mNil)))))) (tgName 13))
    (mSeq (mAsg (mOp oAdd (mVar 13) (mLst (mCons (mTup (mCons (mC (.int 2)) (mCons (mTup (mCons (mTup (mCons (mC (.str "ask")) (mCons (mC (.int 0)) (mCons (mC (.int 1)) (mCons (mOp oMul (mTup (mCons (mVar 12) mNil)) (mC (.int 15))) (mCons (mOp oMul (mTup (mCons (mVar 12) mNil)) (mC (.int 14))) mNil)))))) mNil)) (mCons (mC (.bl true)) mNil)))) (mCons (mTup (mCons (mC (.int 2)) (mCons (mTup (mCons (mTup (mCons (mC (.str "ask")) (mCons (mC (.int 0)) (mCons (mC (.int 1)) (mCons (mOp oMul (mTup (mCons (mVar 12) mNil)) (mC (.int 15))) (mCons (mOp oMul (mTup (mCons (mVar 12) mNil)) (mC (.int 15))) mNil)))))) mNil)) (mCons (mC (.bl false)) mNil)))) (mCons (mTup (mCons (mC (.int 2)) (mCons (mTup (mCons (mTup (mCons (mC (.str "tie")) (mCons (mC (.int 0)) (mCons (mC (.int 1)) (mCons (mC (.str "knows")) mNil))))) mNil)) (mCons (mC (.bl false)) mNil)))) mNil))))) (tgName 13))
    (mSeq (mAsg (mOp oAdd (mVar 13) (mLst (mCons (mTup (mCons (mC (.int 2)) (mCons (mTup (mCons (mTup (mCons (mC (.str "pairs")) (mCons (mC (.int 2)) (mCons (mOp oMul (mTup (mCons (mC (.int 0)) mNil)) (mC (.int 6))) mNil)))) mNil)) (mCons (mC (.bl false)) mNil)))) (mCons (mTup (mCons (mC (.int 2)) (mCons (mTup (mCons (mTup (mCons (mC (.str "pairs")) (mCons (mC (.int 1)) (mCons (mOp oMul (mTup (mCons (mC (.int 0)) mNil)) (mC (.int 5))) mNil)))) mNil)) (mCons (mC (.bl false)) mNil)))) (mCons (mTup (mCons (mC (.int 2)) (mCons (mTup (mCons (mTup (mCons (mC (.str "takes")) (mCons (mC (.int 0)) (mCons (mC (.int 1)) (mCons (mTup (mCons (mC (.int 0)) (mCons (mC (.int 1)) (mCons (mC (.int 2)) (mCons (mC (.int 0)) mNil))))) mNil))))) mNil)) (mCons (mC (.bl false)) mNil)))) (mCons (mTup (mCons (mC (.int 2)) (mCons (mTup (mCons (mTup (mCons (mC (.str "takes")) (mCons (mC (.int 0)) (mCons (mC (.int 1)) (mCons (mTup (mCons (mC (.int 0)) (mCons (mC (.int 1)) (mCons (mC (.bl true)) (mCons (mC (.int 0)) mNil))))) mNil))))) mNil)) (mCons (mC (.bl false)) mNil)))) mNil)))))) (tgName 13))
    (mSeq (mIfS (mB (mOp oNe (mLc itemsL (mVar 13) (tgTup 3 (tgCons (tgName 3) (tgCons (tgName 9) (tgCons (tgName 14) tgNil)))) (mB (mOp oNe (mCall (cl .p_is_script) (mCons (mVar 3) (mCons (mVar 9) mNil))) (mVar 14))) (mC (.int 1)) [3, 9, 14]) (mLst mNil))) (mRet (mC (.bl false))) mSkip)
    (mRet (mAnd (mOp oEq (mCall (cl .p_depth_of) (mCons (mC (.int 2)) (mCons (mVar 7) mNil))) (mC (.int 4))) (mAnd (mOp oEq (mCall (cl .p_count_deeds) (mCons (mC (.int 2)) (mCons (mVar 7) mNil))) (mTup (mCons (mC (.int 4)) (mCons (mC (.int 4)) mNil)))) (mAnd (mOp oEq (mCall (cl .p_depth_of) (mCons (mC (.int 2)) (mCons (mTup mNil) mNil))) (mC (.int 0))) (mOp oEq (mCall (cl .p_count_deeds) (mCons (mC (.int 3)) (mCons (mTup (mCons (mVar 12) (mCons (mVar 11) (mCons (mVar 12) mNil)))) mNil))) (mTup (mCons (mC (.int 3)) (mCons (mC (.int 0)) mNil))))))))))))))))))
def bodies (cl : Fid → FC) : Fid → FC
  | .p_is_integer => mFun 1 (B_p_is_integer cl)
  | .p_is_between => mFun 3 (B_p_is_between cl)
  | .p_is_tuple_of => mFun 2 (B_p_is_tuple_of cl)
  | .p_are_answers => mFun 3 (B_p_are_answers cl)
  | .p_are_two_named => mFun 3 (B_p_are_two_named cl)
  | .p_is_deed_of => mFun 2 (B_p_is_deed_of cl)
  | .p_is_asking => mFun 2 (B_p_is_asking cl)
  | .p_left_behind => mFun 5 (B_p_left_behind cl)
  | .p_left_behind_item => mFun 4 (B_p_left_behind_item cl)
  | .p_is_script_of => mFun 2 (B_p_is_script_of cl)
  | .p_check_named => mFun 1 (B_p_check_named cl)
  | .p_check_script => mFun 2 (B_p_check_script cl)
  | .p_is_script => mFun 2 (B_p_is_script cl)
  | .p_count_deeds => mFun 2 (B_p_count_deeds cl)
  | .p_counted => mFun 6 (B_p_counted cl)
  | .p_depth_of => mFun 2 (B_p_depth_of cl)
  | .p_deepest => mFun 2 (B_p_deepest cl)
  | .Lroll => mFun 4 (B_Lroll cl)
  | .Lsome => mFun 2 (B_Lsome cl)
  | .Lare_whole => mFun 4 (B_Lare_whole cl)
  | .Lnamed => mFun 1 (B_Lnamed cl)
  | .Lanswers => mFun 3 (B_Lanswers cl)
  | .Ldeed => mFun 6 (B_Ldeed cl)
  | .Litems => mFun 11 (B_Litems cl)
  | .Lcount => mFun 3 (B_Lcount cl)
  | .Lscript => mFun 5 (B_Lscript cl)
  | .Lis_two => mFun 2 (B_Lis_two cl)
  | .Lis_deed => mFun 2 (B_Lis_deed cl)
  | .Lmeasured => mFun 8 (B_Lmeasured cl)
  | .Ljudged => mFun 3 (B_Ljudged cl)
  | .Lbent => mFun 8 (B_Lbent cl)
/-- the mirror, so many calls deep -/
def G : Nat → Fid → FC
  | 0, _ => fun _ _ => none
  | n + 1, f => bodies (G n) f
def gLaw (n : Nat) : FC := mFun 15 (B_Law (G n))
end MT

/-! each def keeps to its mirror -/
namespace MT
open PySem PySem.Spec PyProof.Rows L2 ML
/-- what the top has left -/
structure Tx (K : PySem.W.Frag) (mg : Str → Option Value) where
  a_p_is_integer : Addr
  d_p_is_integer : FuncData
  F_p_is_integer : Fun K "is_integer" "is_integer" s_p_is_integer a_p_is_integer d_p_is_integer
  g_p_is_integer : mg "is_integer" = some (.ref a_p_is_integer)
  b_p_is_integer : Binds K d_p_is_integer ["value"] []
  a_p_is_between : Addr
  d_p_is_between : FuncData
  F_p_is_between : Fun K "is_between" "is_between" s_p_is_between a_p_is_between d_p_is_between
  g_p_is_between : mg "is_between" = some (.ref a_p_is_between)
  b_p_is_between : Binds K d_p_is_between ["value", "least", "most"] []
  a_p_is_tuple_of : Addr
  d_p_is_tuple_of : FuncData
  F_p_is_tuple_of : Fun K "is_tuple_of" "is_tuple_of" s_p_is_tuple_of a_p_is_tuple_of d_p_is_tuple_of
  g_p_is_tuple_of : mg "is_tuple_of" = some (.ref a_p_is_tuple_of)
  b_p_is_tuple_of : Binds K d_p_is_tuple_of ["value", "many"] []
  a_p_are_answers : Addr
  d_p_are_answers : FuncData
  F_p_are_answers : Fun K "are_answers" "are_answers" s_p_are_answers a_p_are_answers d_p_are_answers
  g_p_are_answers : mg "are_answers" = some (.ref a_p_are_answers)
  b_p_are_answers : Binds K d_p_are_answers ["value", "many"] []
  a_p_are_two_named : Addr
  d_p_are_two_named : FuncData
  F_p_are_two_named : Fun K "are_two_named" "are_two_named" s_p_are_two_named a_p_are_two_named d_p_are_two_named
  g_p_are_two_named : mg "are_two_named" = some (.ref a_p_are_two_named)
  b_p_are_two_named : Binds K d_p_are_two_named ["named", "one", "other"] []
  a_p_is_deed_of : Addr
  d_p_is_deed_of : FuncData
  F_p_is_deed_of : Fun K "is_deed_of" "is_deed_of" s_p_is_deed_of a_p_is_deed_of d_p_is_deed_of
  g_p_is_deed_of : mg "is_deed_of" = some (.ref a_p_is_deed_of)
  b_p_is_deed_of : Binds K d_p_is_deed_of ["named", "value"] []
  a_p_is_asking : Addr
  d_p_is_asking : FuncData
  F_p_is_asking : Fun K "is_asking" "is_asking" s_p_is_asking a_p_is_asking d_p_is_asking
  g_p_is_asking : mg "is_asking" = some (.ref a_p_is_asking)
  b_p_is_asking : Binds K d_p_is_asking ["named", "value"] []
  a_p_left_behind : Addr
  d_p_left_behind : FuncData
  F_p_left_behind : Fun K "left_behind" "left_behind" s_p_left_behind a_p_left_behind d_p_left_behind
  g_p_left_behind : mg "left_behind" = some (.ref a_p_left_behind)
  b_p_left_behind : Binds K d_p_left_behind ["named", "value", "depth", "left"] []
  a_p_left_behind_item : Addr
  d_p_left_behind_item : FuncData
  F_p_left_behind_item : Fun K "left_behind_item" "left_behind_item" s_p_left_behind_item a_p_left_behind_item d_p_left_behind_item
  g_p_left_behind_item : mg "left_behind_item" = some (.ref a_p_left_behind_item)
  b_p_left_behind_item : Binds K d_p_left_behind_item ["named", "item", "depth", "left"] []
  a_p_is_script_of : Addr
  d_p_is_script_of : FuncData
  F_p_is_script_of : Fun K "is_script_of" "is_script_of" s_p_is_script_of a_p_is_script_of d_p_is_script_of
  g_p_is_script_of : mg "is_script_of" = some (.ref a_p_is_script_of)
  b_p_is_script_of : Binds K d_p_is_script_of ["named", "value"] []
  a_p_check_named : Addr
  d_p_check_named : FuncData
  F_p_check_named : Fun K "check_named" "check_named" s_p_check_named a_p_check_named d_p_check_named
  g_p_check_named : mg "check_named" = some (.ref a_p_check_named)
  b_p_check_named : Binds K d_p_check_named ["named"] []
  a_p_check_script : Addr
  d_p_check_script : FuncData
  F_p_check_script : Fun K "check_script" "check_script" s_p_check_script a_p_check_script d_p_check_script
  g_p_check_script : mg "check_script" = some (.ref a_p_check_script)
  b_p_check_script : Binds K d_p_check_script ["named", "script"] []
  a_p_is_script : Addr
  d_p_is_script : FuncData
  F_p_is_script : Fun K "is_script" "is_script" s_p_is_script a_p_is_script d_p_is_script
  g_p_is_script : mg "is_script" = some (.ref a_p_is_script)
  b_p_is_script : Binds K d_p_is_script ["named", "value"] []
  a_p_count_deeds : Addr
  d_p_count_deeds : FuncData
  F_p_count_deeds : Fun K "count_deeds" "count_deeds" s_p_count_deeds a_p_count_deeds d_p_count_deeds
  g_p_count_deeds : mg "count_deeds" = some (.ref a_p_count_deeds)
  b_p_count_deeds : Binds K d_p_count_deeds ["named", "script"] []
  a_p_counted : Addr
  d_p_counted : FuncData
  F_p_counted : Fun K "counted" "counted" s_p_counted a_p_counted d_p_counted
  g_p_counted : mg "counted" = some (.ref a_p_counted)
  b_p_counted : Binds K d_p_counted ["items"] []
  a_p_depth_of : Addr
  d_p_depth_of : FuncData
  F_p_depth_of : Fun K "depth_of" "depth_of" s_p_depth_of a_p_depth_of d_p_depth_of
  g_p_depth_of : mg "depth_of" = some (.ref a_p_depth_of)
  b_p_depth_of : Binds K d_p_depth_of ["named", "script"] []
  a_p_deepest : Addr
  d_p_deepest : FuncData
  F_p_deepest : Fun K "deepest" "deepest" s_p_deepest a_p_deepest d_p_deepest
  g_p_deepest : mg "deepest" = some (.ref a_p_deepest)
  b_p_deepest : Binds K d_p_deepest ["items"] []
  a_Lcup : Addr
  d_Lcup : FuncData
  F_Lcup : Fun K "_law_cup" "_law_cup" s_Lcup a_Lcup d_Lcup
  g_Lcup : mg "_law_cup" = some (.ref a_Lcup)
  b_Lcup : Binds K d_Lcup ["_law_script_here"] []
  a_Lroll : Addr
  d_Lroll : FuncData
  F_Lroll : Fun K "_law_roll" "_law_roll" s_Lroll a_Lroll d_Lroll
  g_Lroll : mg "_law_roll" = some (.ref a_Lroll)
  b_Lroll : Binds K d_Lroll ["_law_cup_here", "_law_many"] []
  a_Lsome : Addr
  d_Lsome : FuncData
  F_Lsome : Fun K "_law_some" "_law_some" s_Lsome a_Lsome d_Lsome
  g_Lsome : mg "_law_some" = some (.ref a_Lsome)
  b_Lsome : Binds K d_Lsome ["_law_cup_here", "_law_things"] []
  a_Lare_whole : Addr
  d_Lare_whole : FuncData
  F_Lare_whole : Fun K "_law_are_whole" "_law_are_whole" s_Lare_whole a_Lare_whole d_Lare_whole
  g_Lare_whole : mg "_law_are_whole" = some (.ref a_Lare_whole)
  b_Lare_whole : Binds K d_Lare_whole ["_law_value", "_law_low", "_law_high"] []
  a_Lnamed : Addr
  d_Lnamed : FuncData
  F_Lnamed : Fun K "_law_named" "_law_named" s_Lnamed a_Lnamed d_Lnamed
  g_Lnamed : mg "_law_named" = some (.ref a_Lnamed)
  b_Lnamed : Binds K d_Lnamed ["_law_cup_here"] []
  a_Lanswers : Addr
  d_Lanswers : FuncData
  F_Lanswers : Fun K "_law_answers" "_law_answers" s_Lanswers a_Lanswers d_Lanswers
  g_Lanswers : mg "_law_answers" = some (.ref a_Lanswers)
  b_Lanswers : Binds K d_Lanswers ["_law_cup_here", "_law_many"] []
  a_Ldeed : Addr
  d_Ldeed : FuncData
  F_Ldeed : Fun K "_law_deed" "_law_deed" s_Ldeed a_Ldeed d_Ldeed
  g_Ldeed : mg "_law_deed" = some (.ref a_Ldeed)
  b_Ldeed : Binds K d_Ldeed ["_law_cup_here", "_law_named_here"] []
  a_Litems : Addr
  d_Litems : FuncData
  F_Litems : Fun K "_law_items" "_law_items" s_Litems a_Litems d_Litems
  g_Litems : mg "_law_items" = some (.ref a_Litems)
  b_Litems : Binds K d_Litems ["_law_cup_here", "_law_named_here", "_law_most", "_law_deep"] []
  a_Lcount : Addr
  d_Lcount : FuncData
  F_Lcount : Fun K "_law_count" "_law_count" s_Lcount a_Lcount d_Lcount
  g_Lcount : mg "_law_count" = some (.ref a_Lcount)
  b_Lcount : Binds K d_Lcount ["_law_script_here"] []
  a_Lscript : Addr
  d_Lscript : FuncData
  F_Lscript : Fun K "_law_script" "_law_script" s_Lscript a_Lscript d_Lscript
  g_Lscript : mg "_law_script" = some (.ref a_Lscript)
  b_Lscript : Binds K d_Lscript ["_law_cup_here", "_law_named_here", "_law_most", "_law_deep"] []
  a_Lis_two : Addr
  d_Lis_two : FuncData
  F_Lis_two : Fun K "_law_is_two" "_law_is_two" s_Lis_two a_Lis_two d_Lis_two
  g_Lis_two : mg "_law_is_two" = some (.ref a_Lis_two)
  b_Lis_two : Binds K d_Lis_two ["_law_named_here", "_law_value"] []
  a_Lis_deed : Addr
  d_Lis_deed : FuncData
  F_Lis_deed : Fun K "_law_is_deed" "_law_is_deed" s_Lis_deed a_Lis_deed d_Lis_deed
  g_Lis_deed : mg "_law_is_deed" = some (.ref a_Lis_deed)
  b_Lis_deed : Binds K d_Lis_deed ["_law_named_here", "_law_value"] []
  a_Lmeasured : Addr
  d_Lmeasured : FuncData
  F_Lmeasured : Fun K "_law_measured" "_law_measured" s_Lmeasured a_Lmeasured d_Lmeasured
  g_Lmeasured : mg "_law_measured" = some (.ref a_Lmeasured)
  b_Lmeasured : Binds K d_Lmeasured ["_law_named_here", "_law_value"] []
  a_Ljudged : Addr
  d_Ljudged : FuncData
  F_Ljudged : Fun K "_law_judged" "_law_judged" s_Ljudged a_Ljudged d_Ljudged
  g_Ljudged : mg "_law_judged" = some (.ref a_Ljudged)
  b_Ljudged : Binds K d_Ljudged ["_law_named_here", "_law_value"] []
  a_Lbent : Addr
  d_Lbent : FuncData
  F_Lbent : Fun K "_law_bent" "_law_bent" s_Lbent a_Lbent d_Lbent
  g_Lbent : mg "_law_bent" = some (.ref a_Lbent)
  b_Lbent : Binds K d_Lbent ["_law_cup_here", "_law_script_here"] []
  a_Law : Addr
  d_Law : FuncData
  F_Law : Fun K "law" "law" s_Law a_Law d_Law
  g_Law : mg "law" = some (.ref a_Law)
  b_Law : Binds K d_Law ["_law_script_here"] []
  z_abs : mg "abs" = none
  z_all : mg "all" = none
  z_bool : mg "bool" = none
  z_int : mg "int" = none
  z_isinstance : mg "isinstance" = none
  z_len : mg "len" = none
  z_list : mg "list" = none
  z_max : mg "max" = none
  z_range : mg "range" = none
  z_str : mg "str" = none
  z_tuple : mg "tuple" = none
  t_MOST_DEPTH : Tok
  c_MOST_DEPTH : mg "MOST_DEPTH" = some (.int 4 t_MOST_DEPTH)
  t_MOST_ITEMS : Tok
  c_MOST_ITEMS : mg "MOST_ITEMS" = some (.int 30 t_MOST_ITEMS)
  t_MOST_NAMED : Tok
  c_MOST_NAMED : mg "MOST_NAMED" = some (.int 3 t_MOST_NAMED)
  a_WORDS : Addr
  c_WORDS : mg "WORDS" = some (.ref a_WORDS)
  r_WORDS : ∀ H ms ex, RV K H ms ex (.ref a_WORDS) (.tup [(.str "know"), (.str "part"), (.str "turn")])
section
variable {P : Program} {w : World} {K : PySem.W.Frag} {mg : Str → Option Value} {base : Heap}
/-- the defs that may be called, at a level -/
structure Cl (P : Program) (w : World) (base : Heap) (T : Tx K mg) (k : Nat) (cl : Fid → FC) : Prop where
  p_is_integer : FnOk P w K mg base CX0 k T.a_p_is_integer T.d_p_is_integer ["value"] (spM K 1 (cl .p_is_integer))
  p_is_between : FnOk P w K mg base CX0 k T.a_p_is_between T.d_p_is_between ["value", "least", "most"] (spM K 3 (cl .p_is_between))
  p_is_tuple_of : FnOk P w K mg base CX0 k T.a_p_is_tuple_of T.d_p_is_tuple_of ["value", "many"] (spM K 2 (cl .p_is_tuple_of))
  p_are_answers : FnOk P w K mg base CX0 k T.a_p_are_answers T.d_p_are_answers ["value", "many"] (spM K 2 (cl .p_are_answers))
  p_are_two_named : FnOk P w K mg base CX0 k T.a_p_are_two_named T.d_p_are_two_named ["named", "one", "other"] (spM K 3 (cl .p_are_two_named))
  p_is_deed_of : FnOk P w K mg base CX0 k T.a_p_is_deed_of T.d_p_is_deed_of ["named", "value"] (spM K 2 (cl .p_is_deed_of))
  p_is_asking : FnOk P w K mg base CX0 k T.a_p_is_asking T.d_p_is_asking ["named", "value"] (spM K 2 (cl .p_is_asking))
  p_left_behind : FnOk P w K mg base CX0 k T.a_p_left_behind T.d_p_left_behind ["named", "value", "depth", "left"] (spM K 4 (cl .p_left_behind))
  p_left_behind_item : FnOk P w K mg base CX0 k T.a_p_left_behind_item T.d_p_left_behind_item ["named", "item", "depth", "left"] (spM K 4 (cl .p_left_behind_item))
  p_is_script_of : FnOk P w K mg base CX0 k T.a_p_is_script_of T.d_p_is_script_of ["named", "value"] (spM K 2 (cl .p_is_script_of))
  p_check_named : FnOk P w K mg base CX0 k T.a_p_check_named T.d_p_check_named ["named"] (spM K 1 (cl .p_check_named))
  p_check_script : FnOk P w K mg base CX0 k T.a_p_check_script T.d_p_check_script ["named", "script"] (spM K 2 (cl .p_check_script))
  p_is_script : FnOk P w K mg base CX0 k T.a_p_is_script T.d_p_is_script ["named", "value"] (spM K 2 (cl .p_is_script))
  p_count_deeds : FnOk P w K mg base CX0 k T.a_p_count_deeds T.d_p_count_deeds ["named", "script"] (spM K 2 (cl .p_count_deeds))
  p_counted : FnOk P w K mg base CX0 k T.a_p_counted T.d_p_counted ["items"] (spM K 1 (cl .p_counted))
  p_depth_of : FnOk P w K mg base CX0 k T.a_p_depth_of T.d_p_depth_of ["named", "script"] (spM K 2 (cl .p_depth_of))
  p_deepest : FnOk P w K mg base CX0 k T.a_p_deepest T.d_p_deepest ["items"] (spM K 1 (cl .p_deepest))
  Lroll : FnOk P w K mg base CX0 k T.a_Lroll T.d_Lroll ["_law_cup_here", "_law_many"] (spM K 2 (cl .Lroll))
  Lsome : FnOk P w K mg base CX0 k T.a_Lsome T.d_Lsome ["_law_cup_here", "_law_things"] (spM K 2 (cl .Lsome))
  Lare_whole : FnOk P w K mg base CX0 k T.a_Lare_whole T.d_Lare_whole ["_law_value", "_law_low", "_law_high"] (spM K 3 (cl .Lare_whole))
  Lnamed : FnOk P w K mg base CX0 k T.a_Lnamed T.d_Lnamed ["_law_cup_here"] (spM K 1 (cl .Lnamed))
  Lanswers : FnOk P w K mg base CX0 k T.a_Lanswers T.d_Lanswers ["_law_cup_here", "_law_many"] (spM K 2 (cl .Lanswers))
  Ldeed : FnOk P w K mg base CX0 k T.a_Ldeed T.d_Ldeed ["_law_cup_here", "_law_named_here"] (spM K 2 (cl .Ldeed))
  Litems : FnOk P w K mg base CX0 k T.a_Litems T.d_Litems ["_law_cup_here", "_law_named_here", "_law_most", "_law_deep"] (spM K 4 (cl .Litems))
  Lcount : FnOk P w K mg base CX0 k T.a_Lcount T.d_Lcount ["_law_script_here"] (spM K 1 (cl .Lcount))
  Lscript : FnOk P w K mg base CX0 k T.a_Lscript T.d_Lscript ["_law_cup_here", "_law_named_here", "_law_most", "_law_deep"] (spM K 4 (cl .Lscript))
  Lis_two : FnOk P w K mg base CX0 k T.a_Lis_two T.d_Lis_two ["_law_named_here", "_law_value"] (spM K 2 (cl .Lis_two))
  Lis_deed : FnOk P w K mg base CX0 k T.a_Lis_deed T.d_Lis_deed ["_law_named_here", "_law_value"] (spM K 2 (cl .Lis_deed))
  Lmeasured : FnOk P w K mg base CX0 k T.a_Lmeasured T.d_Lmeasured ["_law_named_here", "_law_value"] (spM K 2 (cl .Lmeasured))
  Ljudged : FnOk P w K mg base CX0 k T.a_Ljudged T.d_Ljudged ["_law_named_here", "_law_value"] (spM K 2 (cl .Ljudged))
  Lbent : FnOk P w K mg base CX0 k T.a_Lbent T.d_Lbent ["_law_cup_here", "_law_script_here"] (spM K 2 (cl .Lbent))
theorem ok_p_is_integer (T : Tx K mg) {k : Nat} {cl : Fid → FC} (C : Cl P w base T k cl) : FnOk P w K mg base CX0 (k + 1) T.a_p_is_integer T.d_p_is_integer ["value"] (spM K 1 (mFun 1 (B_p_is_integer cl))) :=
  have nd := sc_p_is_integer.nd
  m_fn T.F_p_is_integer sc_p_is_integer fun cdv A outer s H E hr => (mss_one (ms_ret (me_and (me_isi ty_int (by rfl) T.z_isinstance (by decide +kernel) (by rfl) T.z_int (by decide +kernel) (me_var (i := 0))) (me_one (me_not (me_isi ty_bool (by rfl) T.z_isinstance (by decide +kernel) (by rfl) T.z_bool (by decide +kernel) (me_var (i := 0))))))))
theorem ok_p_is_between (T : Tx K mg) {k : Nat} {cl : Fid → FC} (C : Cl P w base T k cl) : FnOk P w K mg base CX0 (k + 1) T.a_p_is_between T.d_p_is_between ["value", "least", "most"] (spM K 3 (mFun 3 (B_p_is_between cl))) :=
  have nd := sc_p_is_between.nd
  m_fn T.F_p_is_between sc_p_is_between fun cdv A outer s H E hr => (mss_one (ms_ret (me_and (me_call C.p_is_integer hr (by rfl) T.g_p_is_integer T.F_p_is_integer.kp T.b_p_is_integer pass0 (ma_cons (me_var (i := 0)) ma_nil) (ll_cons ll_nil)) (me_one (me_chain op_le op_le s_le s_le (me_var (i := 1)) (me_var (i := 0)) (me_var (i := 2)) (by with_unfolding_all rfl))))))
theorem ok_p_is_tuple_of (T : Tx K mg) {k : Nat} {cl : Fid → FC} (C : Cl P w base T k cl) : FnOk P w K mg base CX0 (k + 1) T.a_p_is_tuple_of T.d_p_is_tuple_of ["value", "many"] (spM K 2 (mFun 2 (B_p_is_tuple_of cl))) :=
  have nd := sc_p_is_tuple_of.nd
  m_fn T.F_p_is_tuple_of sc_p_is_tuple_of fun cdv A outer s H E hr => (mss_one (ms_ret (me_and (me_isi ty_tuple (by rfl) T.z_isinstance (by decide +kernel) (by rfl) T.z_tuple (by decide +kernel) (me_var (i := 0))) (me_one (me_cmp (op_eqA hr.units) s_eq (me_fn call_len_seq s_len (by rfl) T.z_len (by decide +kernel) (ma_cons (me_var (i := 0)) ma_nil)) (me_var (i := 1)) (nomark _))))))
theorem ok_p_are_answers (T : Tx K mg) {k : Nat} {cl : Fid → FC} (C : Cl P w base T k cl) : FnOk P w K mg base CX0 (k + 1) T.a_p_are_answers T.d_p_are_answers ["value", "many"] (spM K 2 (mFun 3 (B_p_are_answers cl))) :=
  have nd := sc_p_are_answers.nd
  m_fn T.F_p_are_answers sc_p_are_answers fun cdv A outer s H E hr => (mss_one (ms_ret (me_and (me_call C.p_is_tuple_of hr (by rfl) T.g_p_is_tuple_of T.F_p_is_tuple_of.kp T.b_p_is_tuple_of pass0 (ma_cons (me_var (i := 0)) (ma_cons (me_var (i := 1)) ma_nil)) (ll_cons (ll_cons ll_nil))) (me_one (me_fn (cr_all rfl) s_all (by rfl) T.z_all (by decide +kernel) (ma_cons (me_lc (own := [("answer", 2)]) (fun _ _ _ h => mt_lcT h) rfl nd (pi_tup (me_var (i := 0))) (blkOk_by (N := n_p_are_answers) (sc := defScope s_p_are_answers) (by decide +kernel)) (fun _ _ _ _ _ => mw_name (i := 2) (by decide) nd rfl (Or.inl rfl)) (fun _ _ _ _ _ => mts_nil) (fun _ _ _ _ _ => (me_call C.p_is_between hr (by rfl) T.g_p_is_between T.F_p_is_between.kp T.b_p_is_between pass0 (ma_cons (me_var (i := 2)) (ma_cons me_int (ma_cons me_int ma_nil))) (ll_cons (ll_cons (ll_cons ll_nil)))))) ma_nil))))))
theorem ok_p_are_two_named (T : Tx K mg) {k : Nat} {cl : Fid → FC} (C : Cl P w base T k cl) : FnOk P w K mg base CX0 (k + 1) T.a_p_are_two_named T.d_p_are_two_named ["named", "one", "other"] (spM K 3 (mFun 3 (B_p_are_two_named cl))) :=
  have nd := sc_p_are_two_named.nd
  m_fn T.F_p_are_two_named sc_p_are_two_named fun cdv A outer s H E hr => (mss_one (ms_ret (me_and (me_call C.p_is_between hr (by rfl) T.g_p_is_between T.F_p_is_between.kp T.b_p_is_between pass0 (ma_cons (me_var (i := 1)) (ma_cons me_int (ma_cons (me_op op_sub s_sub (me_var (i := 0)) me_int) ma_nil))) (ll_cons (ll_cons (ll_cons ll_nil)))) (me_and (me_call C.p_is_between hr (by rfl) T.g_p_is_between T.F_p_is_between.kp T.b_p_is_between pass0 (ma_cons (me_var (i := 2)) (ma_cons me_int (ma_cons (me_op op_sub s_sub (me_var (i := 0)) me_int) ma_nil))) (ll_cons (ll_cons (ll_cons ll_nil)))) (me_one (me_cmp (op_neA hr.units) s_ne (me_var (i := 1)) (me_var (i := 2)) (nomark _)))))))
theorem ok_p_is_deed_of (T : Tx K mg) {k : Nat} {cl : Fid → FC} (C : Cl P w base T k cl) : FnOk P w K mg base CX0 (k + 1) T.a_p_is_deed_of T.d_p_is_deed_of ["named", "value"] (spM K 2 (mFun 2 (B_p_is_deed_of cl))) :=
  have nd := sc_p_is_deed_of.nd
  m_fn T.F_p_is_deed_of sc_p_is_deed_of fun cdv A outer s H E hr => (mss_cons (ms_if (mw_and (mp_val (me_call C.p_is_tuple_of hr (by rfl) T.g_p_is_tuple_of T.F_p_is_tuple_of.kp T.b_p_is_tuple_of pass0 (ma_cons (me_var (i := 1)) (ma_cons me_int ma_nil)) (ll_cons (ll_cons ll_nil)))) (mw_and1 (mp_cmp (op_eqA hr.units) s_eq (me_ix ix_A s_ix (me_var (i := 1)) me_int (fun _ _ => rfl)) me_str (nomark _)))).pt (mss_one (ms_ret (me_and (me_call C.p_is_between hr (by rfl) T.g_p_is_between T.F_p_is_between.kp T.b_p_is_between pass0 (ma_cons (me_ix ix_A s_ix (me_var (i := 1)) me_int (fun _ _ => rfl)) (ma_cons me_int (ma_cons (me_op op_sub s_sub (me_var (i := 0)) me_int) ma_nil))) (ll_cons (ll_cons (ll_cons ll_nil)))) (me_one (me_call C.p_are_answers hr (by rfl) T.g_p_are_answers T.F_p_are_answers.kp T.b_p_are_answers pass0 (ma_cons (me_ix ix_A s_ix (me_var (i := 1)) me_int (fun _ _ => rfl)) (ma_cons me_int ma_nil)) (ll_cons (ll_cons ll_nil))))))) mss_nil)
    (mss_cons (ms_if (mw_or (mp_not (mp_val (me_call C.p_is_tuple_of hr (by rfl) T.g_p_is_tuple_of T.F_p_is_tuple_of.kp T.b_p_is_tuple_of pass0 (ma_cons (me_var (i := 1)) (ma_cons me_int ma_nil)) (ll_cons (ll_cons ll_nil))))) (mw_or1 (mp_not (mp_val (me_call C.p_are_two_named hr (by rfl) T.g_p_are_two_named T.F_p_are_two_named.kp T.b_p_are_two_named pass0 (ma_cons (me_var (i := 0)) (ma_cons (me_ix ix_A s_ix (me_var (i := 1)) me_int (fun _ _ => rfl)) (ma_cons (me_ix ix_A s_ix (me_var (i := 1)) me_int (fun _ _ => rfl)) ma_nil))) (ll_cons (ll_cons (ll_cons ll_nil)))))))).pt (mss_one (ms_ret me_bl)) mss_nil)
    (mss_cons (ms_if (mp_cmp (op_eqA hr.units) s_eq (me_ix ix_A s_ix (me_var (i := 1)) me_int (fun _ _ => rfl)) me_str (nomark _)) (mss_one (ms_ret (me_call C.p_are_answers hr (by rfl) T.g_p_are_answers T.F_p_are_answers.kp T.b_p_are_answers pass0 (ma_cons (me_ix ix_A s_ix (me_var (i := 1)) me_int (fun _ _ => rfl)) (ma_cons me_int ma_nil)) (ll_cons (ll_cons ll_nil))))) mss_nil)
    (mss_one (ms_ret (me_and (me_cmp (op_eqA hr.units) s_eq (me_ix ix_A s_ix (me_var (i := 1)) me_int (fun _ _ => rfl)) me_str (nomark _)) (me_one (me_cmp (op_inA (room65 hr)) s_in (me_ix ix_A s_ix (me_var (i := 1)) me_int (fun _ _ => rfl)) (me_globR (by rfl) T.c_WORDS T.r_WORDS) (by rfl)))))))))
theorem ok_p_is_asking (T : Tx K mg) {k : Nat} {cl : Fid → FC} (C : Cl P w base T k cl) : FnOk P w K mg base CX0 (k + 1) T.a_p_is_asking T.d_p_is_asking ["named", "value"] (spM K 2 (mFun 2 (B_p_is_asking cl))) :=
  have nd := sc_p_is_asking.nd
  m_fn T.F_p_is_asking sc_p_is_asking fun cdv A outer s H E hr => (mss_cons (ms_if (mw_or (mp_not (mp_val (me_call C.p_is_tuple_of hr (by rfl) T.g_p_is_tuple_of T.F_p_is_tuple_of.kp T.b_p_is_tuple_of pass0 (ma_cons (me_var (i := 1)) (ma_cons me_int ma_nil)) (ll_cons (ll_cons ll_nil))))) (mw_or1 (mp_cmp (op_neA hr.units) s_ne (me_ix ix_A s_ix (me_var (i := 1)) me_int (fun _ _ => rfl)) me_str (nomark _)))).pt (mss_one (ms_ret me_bl)) mss_nil)
    (mss_one (ms_ret (me_call C.p_are_two_named hr (by rfl) T.g_p_are_two_named T.F_p_are_two_named.kp T.b_p_are_two_named pass0 (ma_cons (me_var (i := 0)) (ma_cons (me_ix ix_A s_ix (me_var (i := 1)) me_int (fun _ _ => rfl)) (ma_cons (me_ix ix_A s_ix (me_var (i := 1)) me_int (fun _ _ => rfl)) ma_nil))) (ll_cons (ll_cons (ll_cons ll_nil)))))))
theorem ok_p_left_behind (T : Tx K mg) {k : Nat} {cl : Fid → FC} (C : Cl P w base T k cl) : FnOk P w K mg base CX0 (k + 1) T.a_p_left_behind T.d_p_left_behind ["named", "value", "depth", "left"] (spM K 4 (mFun 5 (B_p_left_behind cl))) :=
  have nd := sc_p_left_behind.nd
  m_fn T.F_p_left_behind sc_p_left_behind fun cdv A outer s H E hr => (mss_cons (ms_if (mw_or (mp_not (mp_val (me_isi ty_tuple (by rfl) T.z_isinstance (by decide +kernel) (by rfl) T.z_tuple (by decide +kernel) (me_var (i := 1))))) (mw_or1 (mp_cmp op_gt s_gt (me_fn call_len_seq s_len (by rfl) T.z_len (by decide +kernel) (ma_cons (me_var (i := 1)) ma_nil)) (me_var (i := 3)) (nomark _)))).pt (mss_one (ms_ret (me_un un_neg s_neg me_int))) mss_nil)
    (mss_cons (ms_asg (me_op op_sub s_sub (me_var (i := 3)) (me_fn call_len_seq s_len (by rfl) T.z_len (by decide +kernel) (ma_cons (me_var (i := 1)) ma_nil))) (mg_name (i := 3) nd rfl (Or.inl rfl)))
    (mss_cons (ms_forT PassesOwn.never rfl (me_var (i := 1)) (mg_name (i := 4) nd rfl (Or.inl rfl)) (mss_one (ms_asg (me_call C.p_left_behind_item hr (by rfl) T.g_p_left_behind_item T.F_p_left_behind_item.kp T.b_p_left_behind_item pass0 (ma_cons (me_var (i := 0)) (ma_cons (me_var (i := 4)) (ma_cons (me_var (i := 2)) (ma_cons (me_var (i := 3)) ma_nil)))) (ll_cons (ll_cons (ll_cons (ll_cons ll_nil))))) (mg_name (i := 3) nd rfl (Or.inl rfl)))))
    (mss_one (ms_ret (me_var (i := 3)))))))
theorem ok_p_left_behind_item (T : Tx K mg) {k : Nat} {cl : Fid → FC} (C : Cl P w base T k cl) : FnOk P w K mg base CX0 (k + 1) T.a_p_left_behind_item T.d_p_left_behind_item ["named", "item", "depth", "left"] (spM K 4 (mFun 4 (B_p_left_behind_item cl))) :=
  have nd := sc_p_left_behind_item.nd
  m_fn T.F_p_left_behind_item sc_p_left_behind_item fun cdv A outer s H E hr => (mss_cons (ms_if (mp_val (me_call C.p_is_deed_of hr (by rfl) T.g_p_is_deed_of T.F_p_is_deed_of.kp T.b_p_is_deed_of pass0 (ma_cons (me_var (i := 0)) (ma_cons (me_var (i := 1)) ma_nil)) (ll_cons (ll_cons ll_nil)))) (mss_one (ms_ret (me_var (i := 3)))) mss_nil)
    (mss_cons (ms_if (mw_or (mp_cmp (op_eqA hr.units) s_eq (me_var (i := 2)) me_int (nomark _)) (mw_or1 (mp_not (mp_val (me_call C.p_is_asking hr (by rfl) T.g_p_is_asking T.F_p_is_asking.kp T.b_p_is_asking pass0 (ma_cons (me_var (i := 0)) (ma_cons (me_var (i := 1)) ma_nil)) (ll_cons (ll_cons ll_nil))))))).pt (mss_one (ms_ret (me_un un_neg s_neg me_int))) mss_nil)
    (mss_cons (ms_asg (me_call C.p_left_behind hr (by rfl) T.g_p_left_behind T.F_p_left_behind.kp T.b_p_left_behind pass0 (ma_cons (me_var (i := 0)) (ma_cons (me_ix ix_A s_ix (me_var (i := 1)) me_int (fun _ _ => rfl)) (ma_cons (me_op op_sub s_sub (me_var (i := 2)) me_int) (ma_cons (me_var (i := 3)) ma_nil)))) (ll_cons (ll_cons (ll_cons (ll_cons ll_nil))))) (mg_name (i := 3) nd rfl (Or.inl rfl)))
    (mss_one (ms_ret (me_call C.p_left_behind hr (by rfl) T.g_p_left_behind T.F_p_left_behind.kp T.b_p_left_behind pass0 (ma_cons (me_var (i := 0)) (ma_cons (me_ix ix_A s_ix (me_var (i := 1)) me_int (fun _ _ => rfl)) (ma_cons (me_op op_sub s_sub (me_var (i := 2)) me_int) (ma_cons (me_var (i := 3)) ma_nil)))) (ll_cons (ll_cons (ll_cons (ll_cons ll_nil))))))))))
theorem ok_p_is_script_of (T : Tx K mg) {k : Nat} {cl : Fid → FC} (C : Cl P w base T k cl) : FnOk P w K mg base CX0 (k + 1) T.a_p_is_script_of T.d_p_is_script_of ["named", "value"] (spM K 2 (mFun 2 (B_p_is_script_of cl))) :=
  have nd := sc_p_is_script_of.nd
  m_fn T.F_p_is_script_of sc_p_is_script_of fun cdv A outer s H E hr => (mss_one (ms_ret (me_cmp op_ge s_ge (me_call C.p_left_behind hr (by rfl) T.g_p_left_behind T.F_p_left_behind.kp T.b_p_left_behind pass0 (ma_cons (me_var (i := 0)) (ma_cons (me_var (i := 1)) (ma_cons (me_globI (by rfl) T.c_MOST_DEPTH) (ma_cons (me_globI (by rfl) T.c_MOST_ITEMS) ma_nil)))) (ll_cons (ll_cons (ll_cons (ll_cons ll_nil))))) me_int (nomark _))))
theorem ok_p_check_named (T : Tx K mg) {k : Nat} {cl : Fid → FC} (C : Cl P w base T k cl) : FnOk P w K mg base CX0 (k + 1) T.a_p_check_named T.d_p_check_named ["named"] (spM K 1 (mFun 1 (B_p_check_named cl))) :=
  have nd := sc_p_check_named.nd
  m_fn T.F_p_check_named sc_p_check_named fun cdv A outer s H E hr => (mss_one (ms_if (mp_not (mp_val (me_call C.p_is_between hr (by rfl) T.g_p_is_between T.F_p_is_between.kp T.b_p_is_between pass0 (ma_cons (me_var (i := 0)) (ma_cons me_int (ma_cons (me_globI (by rfl) T.c_MOST_NAMED) ma_nil))) (ll_cons (ll_cons (ll_cons ll_nil)))))) (mss_one ms_never) mss_nil))
theorem ok_p_check_script (T : Tx K mg) {k : Nat} {cl : Fid → FC} (C : Cl P w base T k cl) : FnOk P w K mg base CX0 (k + 1) T.a_p_check_script T.d_p_check_script ["named", "script"] (spM K 2 (mFun 2 (B_p_check_script cl))) :=
  have nd := sc_p_check_script.nd
  m_fn T.F_p_check_script sc_p_check_script fun cdv A outer s H E hr => (mss_cons (ms_expr (me_call C.p_check_named hr (by rfl) T.g_p_check_named T.F_p_check_named.kp T.b_p_check_named pass0 (ma_cons (me_var (i := 0)) ma_nil) (ll_cons ll_nil)))
    (mss_one (ms_if (mp_not (mp_val (me_call C.p_is_script_of hr (by rfl) T.g_p_is_script_of T.F_p_is_script_of.kp T.b_p_is_script_of pass0 (ma_cons (me_var (i := 0)) (ma_cons (me_var (i := 1)) ma_nil)) (ll_cons (ll_cons ll_nil))))) (mss_one ms_never) mss_nil)))
theorem ok_p_is_script (T : Tx K mg) {k : Nat} {cl : Fid → FC} (C : Cl P w base T k cl) : FnOk P w K mg base CX0 (k + 1) T.a_p_is_script T.d_p_is_script ["named", "value"] (spM K 2 (mFun 2 (B_p_is_script cl))) :=
  have nd := sc_p_is_script.nd
  m_fn T.F_p_is_script sc_p_is_script fun cdv A outer s H E hr => (mss_cons (ms_expr (me_call C.p_check_named hr (by rfl) T.g_p_check_named T.F_p_check_named.kp T.b_p_check_named pass0 (ma_cons (me_var (i := 0)) ma_nil) (ll_cons ll_nil)))
    (mss_one (ms_ret (me_call C.p_is_script_of hr (by rfl) T.g_p_is_script_of T.F_p_is_script_of.kp T.b_p_is_script_of pass0 (ma_cons (me_var (i := 0)) (ma_cons (me_var (i := 1)) ma_nil)) (ll_cons (ll_cons ll_nil))))))
theorem ok_p_count_deeds (T : Tx K mg) {k : Nat} {cl : Fid → FC} (C : Cl P w base T k cl) : FnOk P w K mg base CX0 (k + 1) T.a_p_count_deeds T.d_p_count_deeds ["named", "script"] (spM K 2 (mFun 2 (B_p_count_deeds cl))) :=
  have nd := sc_p_count_deeds.nd
  m_fn T.F_p_count_deeds sc_p_count_deeds fun cdv A outer s H E hr => (mss_cons (ms_expr (me_call C.p_check_script hr (by rfl) T.g_p_check_script T.F_p_check_script.kp T.b_p_check_script pass0 (ma_cons (me_var (i := 0)) (ma_cons (me_var (i := 1)) ma_nil)) (ll_cons (ll_cons ll_nil))))
    (mss_one (ms_ret (me_call C.p_counted hr (by rfl) T.g_p_counted T.F_p_counted.kp T.b_p_counted pass0 (ma_cons (me_var (i := 1)) ma_nil) (ll_cons ll_nil)))))
theorem ok_p_counted (T : Tx K mg) {k : Nat} {cl : Fid → FC} (C : Cl P w base T k cl) : FnOk P w K mg base CX0 (k + 1) T.a_p_counted T.d_p_counted ["items"] (spM K 1 (mFun 6 (B_p_counted cl))) :=
  have nd := sc_p_counted.nd
  m_fn T.F_p_counted sc_p_counted fun cdv A outer s H E hr => (mss_cons (ms_asg me_int (mg_name (i := 1) nd rfl (Or.inl rfl)))
    (mss_cons (ms_asg me_int (mg_name (i := 2) nd rfl (Or.inl rfl)))
    (mss_cons (ms_forT PassesOwn.never rfl (me_var (i := 0)) (mg_name (i := 3) nd rfl (Or.inl rfl)) (mss_one (ms_if (mp_cmp (op_eqA hr.units) s_eq (me_ix ix_A s_ix (me_var (i := 3)) me_int (fun _ _ => rfl)) me_str (nomark _)) (mss_cons (ms_par2 (i := 4) (j := 5) rfl nd rfl rfl (by decide) rfl rfl (ma_cons (me_call C.p_counted hr (by rfl) T.g_p_counted T.F_p_counted.kp T.b_p_counted pass0 (ma_cons (me_ix ix_A s_ix (me_var (i := 3)) me_int (fun _ _ => rfl)) ma_nil) (ll_cons ll_nil)) (ma_cons (me_call C.p_counted hr (by rfl) T.g_p_counted T.F_p_counted.kp T.b_p_counted pass0 (ma_cons (me_ix ix_A s_ix (me_var (i := 3)) me_int (fun _ _ => rfl)) ma_nil) (ll_cons ll_nil)) ma_nil)) (by rfl))
    (mss_cons (ms_asg (me_op op_addA s_add (me_op op_addA s_add (me_var (i := 1)) (me_ix ix_A s_ix (me_var (i := 4)) me_int (fun _ _ => rfl))) (me_ix ix_A s_ix (me_var (i := 5)) me_int (fun _ _ => rfl))) (mg_name (i := 1) nd rfl (Or.inl rfl)))
    (mss_one (ms_asg (me_op op_addA s_add (me_op op_addA s_add (me_op op_addA s_add (me_var (i := 2)) (me_ix ix_A s_ix (me_var (i := 4)) me_int (fun _ _ => rfl))) (me_ix ix_A s_ix (me_var (i := 5)) me_int (fun _ _ => rfl))) me_int) (mg_name (i := 2) nd rfl (Or.inl rfl)))))) (mss_one (ms_asg (me_op op_addA s_add (me_var (i := 1)) me_int) (mg_name (i := 1) nd rfl (Or.inl rfl)))))))
    (mss_one (ms_ret (me_tup (ma_cons (me_var (i := 1)) (ma_cons (me_var (i := 2)) ma_nil)) (fun r M ds M' h => Nat.le_trans ((ln_cons (ln_cons ln_nil)) r M ds M' h) (by decide))))))))
theorem ok_p_depth_of (T : Tx K mg) {k : Nat} {cl : Fid → FC} (C : Cl P w base T k cl) : FnOk P w K mg base CX0 (k + 1) T.a_p_depth_of T.d_p_depth_of ["named", "script"] (spM K 2 (mFun 2 (B_p_depth_of cl))) :=
  have nd := sc_p_depth_of.nd
  m_fn T.F_p_depth_of sc_p_depth_of fun cdv A outer s H E hr => (mss_cons (ms_expr (me_call C.p_check_script hr (by rfl) T.g_p_check_script T.F_p_check_script.kp T.b_p_check_script pass0 (ma_cons (me_var (i := 0)) (ma_cons (me_var (i := 1)) ma_nil)) (ll_cons (ll_cons ll_nil))))
    (mss_one (ms_ret (me_call C.p_deepest hr (by rfl) T.g_p_deepest T.F_p_deepest.kp T.b_p_deepest pass0 (ma_cons (me_var (i := 1)) ma_nil) (ll_cons ll_nil)))))
theorem ok_p_deepest (T : Tx K mg) {k : Nat} {cl : Fid → FC} (C : Cl P w base T k cl) : FnOk P w K mg base CX0 (k + 1) T.a_p_deepest T.d_p_deepest ["items"] (spM K 1 (mFun 2 (B_p_deepest cl))) :=
  have nd := sc_p_deepest.nd
  m_fn T.F_p_deepest sc_p_deepest fun cdv A outer s H E hr => (mss_one (ms_ret (me_fn (call_maxA rfl) s_max (by rfl) T.z_max (by decide +kernel) (ma_cons (me_op op_addA s_add (me_lst (ma_cons me_int ma_nil) (fun r M ds M' h => Nat.le_trans ((ln_cons ln_nil) r M ds M' h) (by decide))) (me_lc (own := [("item", 1)]) (fun _ _ _ h => mt_lcT h) rfl nd (pi_tup (me_var (i := 0))) (blkOk_by (N := n_p_deepest) (sc := defScope s_p_deepest) (by decide +kernel)) (fun _ _ _ _ _ => mw_name (i := 1) (by decide) nd rfl (Or.inl rfl)) (fun _ _ _ _ _ => (mts_one (mp_cmp (op_eqA hr.units) s_eq (me_ix ix_A s_ix (me_var (i := 1)) me_int (fun _ _ => rfl)) me_str (nomark _)))) (fun _ _ _ _ _ => (me_op op_addA s_add me_int (me_fn (call_maxA rfl) s_max (by rfl) T.z_max (by decide +kernel) (ma_cons (me_call C.p_deepest hr (by rfl) T.g_p_deepest T.F_p_deepest.kp T.b_p_deepest pass0 (ma_cons (me_ix ix_A s_ix (me_var (i := 1)) me_int (fun _ _ => rfl)) ma_nil) (ll_cons ll_nil)) (ma_cons (me_call C.p_deepest hr (by rfl) T.g_p_deepest T.F_p_deepest.kp T.b_p_deepest pass0 (ma_cons (me_ix ix_A s_ix (me_var (i := 1)) me_int (fun _ _ => rfl)) ma_nil) (ll_cons ll_nil)) ma_nil))))))) ma_nil))))
theorem ok_Lcup (T : Tx K mg) (k : Nat) : FnOk P w K mg base CX0 (k + 1) T.a_Lcup T.d_Lcup ["_law_script_here"] (spF K 1 g_Lcup) :=
  have nd := sc_Lcup.nd
  m_fnF T.F_Lcup sc_Lcup rfl (fun r M ds M' h => Nat.le_trans ((ln_cons (ln_cons ln_nil)) r M ds M' h) (by decide)) fun cdv A outer s H E hr => ⟨(ms_asg (me_fn call_abs s_abs (by rfl) T.z_abs (by decide +kernel) (ma_cons (me_ix ix_A s_ix (me_op op_addA s_add (me_ty call_list_of s_list (by rfl) T.z_list (by decide +kernel) (ma_cons (me_var (i := 0)) ma_nil)) (me_lst (ma_cons me_int ma_nil) (fun r M ds M' h => Nat.le_trans ((ln_cons ln_nil) r M ds M' h) (by decide)))) me_int (fun _ _ => rfl)) ma_nil)) (mg_name (i := 1) nd rfl (Or.inl rfl))), (ma_cons (me_if (mp_cmp op_ge s_ge (me_var (i := 1)) (me_op op_pow s_pow me_int me_int) (nomark _)) (me_op op_fdiv s_div (me_var (i := 1)) me_int) me_int) (ma_cons (me_op op_addA s_add (me_op op_mod s_mod (me_ty call_int1 s_int (by rfl) T.z_int (by decide +kernel) (ma_cons (me_op op_addA s_add (me_op op_mulA s_mul (me_var (i := 1)) me_int) me_int) ma_nil)) me_int) me_int) ma_nil))⟩
theorem ok_Lroll (T : Tx K mg) {k : Nat} {cl : Fid → FC} (C : Cl P w base T k cl) : FnOk P w K mg base CX0 (k + 1) T.a_Lroll T.d_Lroll ["_law_cup_here", "_law_many"] (spM K 2 (mFun 4 (B_Lroll cl))) :=
  have nd := sc_Lroll.nd
  m_fn T.F_Lroll sc_Lroll fun cdv A outer s H E hr => (mss_cons (ms_if (mp_cmp op_gt s_gt (me_ix ix_A s_ix (me_var (i := 0)) me_int (fun _ _ => rfl)) me_int (nomark _)) (mss_cons (ms_asg (me_op op_mod s_mod (me_ty call_int1 s_int (by rfl) T.z_int (by decide +kernel) (ma_cons (me_ix ix_A s_ix (me_var (i := 0)) me_int (fun _ _ => rfl)) ma_nil)) (me_var (i := 1))) (mg_name (i := 2) nd rfl (Or.inl rfl)))
    (mss_cons (ms_store (me_op op_fdiv s_div (me_ix ix_A s_ix (me_var (i := 0)) me_int (fun _ _ => rfl)) (me_var (i := 1))) (me_var (i := 0)) me_int)
    (mss_one (ms_ret (me_var (i := 2)))))) mss_nil)
    (mss_cons (ms_store (me_op op_mod s_mod (me_ty call_int1 s_int (by rfl) T.z_int (by decide +kernel) (ma_cons (me_op op_addA s_add (me_op op_mulA s_mul (me_ix ix_A s_ix (me_var (i := 0)) me_int (fun _ _ => rfl)) me_int) me_int) ma_nil)) me_int) (me_var (i := 0)) me_int)
    (mss_cons (ms_asg (me_op op_mod s_mod (me_ty call_int1 s_int (by rfl) T.z_int (by decide +kernel) (ma_cons (me_op op_mulA s_mul (me_ix ix_A s_ix (me_var (i := 0)) me_int (fun _ _ => rfl)) (me_op op_addA s_add (me_ix ix_A s_ix (me_var (i := 0)) me_int (fun _ _ => rfl)) me_int)) ma_nil)) me_int) (mg_name (i := 3) nd rfl (Or.inl rfl)))
    (mss_one (ms_ret (me_op op_mod s_mod (me_ty call_int1 s_int (by rfl) T.z_int (by decide +kernel) (ma_cons (me_op op_fdiv s_div (me_var (i := 3)) me_int) ma_nil)) (me_var (i := 1))))))))
theorem ok_Lsome (T : Tx K mg) {k : Nat} {cl : Fid → FC} (C : Cl P w base T k cl) : FnOk P w K mg base CX0 (k + 1) T.a_Lsome T.d_Lsome ["_law_cup_here", "_law_things"] (spM K 2 (mFun 2 (B_Lsome cl))) :=
  have nd := sc_Lsome.nd
  m_fn T.F_Lsome sc_Lsome fun cdv A outer s H E hr => (mss_one (ms_ret (me_ix ix_A s_ix (me_var (i := 1)) (me_call C.Lroll hr (by rfl) T.g_Lroll T.F_Lroll.kp T.b_Lroll pass0 (ma_cons (me_var (i := 0)) (ma_cons (me_fn call_len_seq s_len (by rfl) T.z_len (by decide +kernel) (ma_cons (me_var (i := 1)) ma_nil)) ma_nil)) (ll_cons (ll_cons ll_nil))) (fun _ _ => rfl))))
theorem ok_Lare_whole (T : Tx K mg) {k : Nat} {cl : Fid → FC} (C : Cl P w base T k cl) : FnOk P w K mg base CX0 (k + 1) T.a_Lare_whole T.d_Lare_whole ["_law_value", "_law_low", "_law_high"] (spM K 3 (mFun 4 (B_Lare_whole cl))) :=
  have nd := sc_Lare_whole.nd
  m_fn T.F_Lare_whole sc_Lare_whole fun cdv A outer s H E hr => (mss_cons (ms_if (mp_not (mp_val (me_isi ty_tuple (by rfl) T.z_isinstance (by decide +kernel) (by rfl) T.z_tuple (by decide +kernel) (me_var (i := 0))))) (mss_one (ms_ret me_bl)) mss_nil)
    (mss_one (ms_ret (me_cmp (op_eqA hr.units) s_eq (me_lc (own := [("_law_one", 3)]) (fun _ _ _ h => mt_lcT h) rfl nd (pi_tup (me_var (i := 0))) (blkOk_by (N := n_Lare_whole) (sc := defScope s_Lare_whole) (by decide +kernel)) (fun _ _ _ _ _ => mw_name (i := 3) (by decide) nd rfl (Or.inl rfl)) (fun _ _ _ _ _ => (mts_one (mw_or (mp_val (me_isi ty_bool (by rfl) T.z_isinstance (by decide +kernel) (by rfl) T.z_bool (by decide +kernel) (me_var (i := 3)))) (mw_or (mp_not (mp_val (me_isi ty_int (by rfl) T.z_isinstance (by decide +kernel) (by rfl) T.z_int (by decide +kernel) (me_var (i := 3))))) (mw_or1 (mp_not (mp_chain op_le op_le s_le s_le (me_var (i := 1)) (me_var (i := 3)) (me_var (i := 2)) (by with_unfolding_all rfl)))))).pt)) (fun _ _ _ _ _ => me_int)) (me_lst ma_nil (fun r M ds M' h => Nat.le_trans (ln_nil r M ds M' h) (by decide))) (nomark _)))))
theorem ok_Lnamed (T : Tx K mg) {k : Nat} {cl : Fid → FC} (C : Cl P w base T k cl) : FnOk P w K mg base CX0 (k + 1) T.a_Lnamed T.d_Lnamed ["_law_cup_here"] (spM K 1 (mFun 1 (B_Lnamed cl))) :=
  have nd := sc_Lnamed.nd
  m_fn T.F_Lnamed sc_Lnamed fun cdv A outer s H E hr => (mss_one (ms_ret (me_call C.Lsome hr (by rfl) T.g_Lsome T.F_Lsome.kp T.b_Lsome pass0 (ma_cons (me_var (i := 0)) (ma_cons (me_lst (ma_cons me_int (ma_cons me_int (ma_cons me_int (ma_cons me_int (ma_cons me_int (ma_cons me_int (ma_cons me_int (ma_cons me_int ma_nil)))))))) (fun r M ds M' h => Nat.le_trans ((ln_cons (ln_cons (ln_cons (ln_cons (ln_cons (ln_cons (ln_cons (ln_cons ln_nil)))))))) r M ds M' h) (by decide))) ma_nil)) (ll_cons (ll_cons ll_nil)))))
theorem ok_Lanswers (T : Tx K mg) {k : Nat} {cl : Fid → FC} (C : Cl P w base T k cl) : FnOk P w K mg base CX0 (k + 1) T.a_Lanswers T.d_Lanswers ["_law_cup_here", "_law_many"] (spM K 2 (mFun 3 (B_Lanswers cl))) :=
  have nd := sc_Lanswers.nd
  m_fn T.F_Lanswers sc_Lanswers fun cdv A outer s H E hr => (mss_one (ms_ret (me_ty call_tuple_of s_tuple (by rfl) T.z_tuple (by decide +kernel) (ma_cons (me_lc (own := [("_law_answer", 2)]) (fun _ _ _ h => mt_lcR1 h) rfl nd (pi_range1 (by rfl) T.z_range (ma_cons (me_var (i := 1)) ma_nil)) (blkOk_by (N := n_Lanswers) (sc := defScope s_Lanswers) (by decide +kernel)) (fun _ _ _ _ _ => mw_name (i := 2) (by decide) nd rfl (Or.inl rfl)) (fun _ _ _ _ _ => mts_nil) (fun _ _ _ _ _ => (me_call C.Lroll hr (by rfl) T.g_Lroll T.F_Lroll.kp T.b_Lroll pass0 (ma_cons (me_var (i := 0)) (ma_cons me_int ma_nil)) (ll_cons (ll_cons ll_nil))))) ma_nil))))
theorem ok_Ldeed (T : Tx K mg) {k : Nat} {cl : Fid → FC} (C : Cl P w base T k cl) : FnOk P w K mg base CX0 (k + 1) T.a_Ldeed T.d_Ldeed ["_law_cup_here", "_law_named_here"] (spM K 2 (mFun 6 (B_Ldeed cl))) :=
  have nd := sc_Ldeed.nd
  m_fn T.F_Ldeed sc_Ldeed fun cdv A outer s H E hr => (mss_cons (ms_asg (me_call C.Lroll hr (by rfl) T.g_Lroll T.F_Lroll.kp T.b_Lroll pass0 (ma_cons (me_var (i := 0)) (ma_cons (me_var (i := 1)) ma_nil)) (ll_cons (ll_cons ll_nil))) (mg_name (i := 2) nd rfl (Or.inr rfl)))
    (mss_cons (ms_if (mw_or (mp_cmp (op_eqA hr.units) s_eq (me_var (i := 1)) me_int (nomark _)) (mw_or1 (mp_cmp op_lt s_lt (me_call C.Lroll hr (by rfl) T.g_Lroll T.F_Lroll.kp T.b_Lroll pass0 (ma_cons (me_var (i := 0)) (ma_cons me_int ma_nil)) (ll_cons (ll_cons ll_nil))) me_int (nomark _)))).pt (mss_cons (ms_asg (me_lst (ma_cons (me_tup (ma_cons me_int (ma_cons me_int (ma_cons me_int (ma_cons me_int (ma_cons me_int (ma_cons me_int ma_nil)))))) (fun r M ds M' h => Nat.le_trans ((ln_cons (ln_cons (ln_cons (ln_cons (ln_cons (ln_cons ln_nil)))))) r M ds M' h) (by decide))) (ma_cons (me_tup (ma_cons me_int (ma_cons me_int (ma_cons me_int (ma_cons me_int (ma_cons me_int (ma_cons me_int ma_nil)))))) (fun r M ds M' h => Nat.le_trans ((ln_cons (ln_cons (ln_cons (ln_cons (ln_cons (ln_cons ln_nil)))))) r M ds M' h) (by decide))) (ma_cons (me_tup (ma_cons me_int (ma_cons me_int (ma_cons me_int (ma_cons me_int (ma_cons me_int (ma_cons me_int ma_nil)))))) (fun r M ds M' h => Nat.le_trans ((ln_cons (ln_cons (ln_cons (ln_cons (ln_cons (ln_cons ln_nil)))))) r M ds M' h) (by decide))) (ma_cons (me_tup (ma_cons me_int (ma_cons me_int (ma_cons me_int (ma_cons me_int (ma_cons me_int (ma_cons me_int ma_nil)))))) (fun r M ds M' h => Nat.le_trans ((ln_cons (ln_cons (ln_cons (ln_cons (ln_cons (ln_cons ln_nil)))))) r M ds M' h) (by decide))) (ma_cons (me_tup (ma_cons me_int (ma_cons me_int (ma_cons me_int (ma_cons me_int (ma_cons me_int (ma_cons me_int ma_nil)))))) (fun r M ds M' h => Nat.le_trans ((ln_cons (ln_cons (ln_cons (ln_cons (ln_cons (ln_cons ln_nil)))))) r M ds M' h) (by decide))) (ma_cons (me_tup (ma_cons me_int (ma_cons me_int (ma_cons me_int (ma_cons me_int (ma_cons me_int (ma_cons me_int ma_nil)))))) (fun r M ds M' h => Nat.le_trans ((ln_cons (ln_cons (ln_cons (ln_cons (ln_cons (ln_cons ln_nil)))))) r M ds M' h) (by decide))) (ma_cons (me_tup (ma_cons me_int (ma_cons me_int (ma_cons me_int (ma_cons me_int (ma_cons me_int (ma_cons me_int ma_nil)))))) (fun r M ds M' h => Nat.le_trans ((ln_cons (ln_cons (ln_cons (ln_cons (ln_cons (ln_cons ln_nil)))))) r M ds M' h) (by decide))) ma_nil))))))) (fun r M ds M' h => Nat.le_trans ((ln_cons (ln_cons (ln_cons (ln_cons (ln_cons (ln_cons (ln_cons ln_nil))))))) r M ds M' h) (by decide))) (mg_name (i := 3) nd rfl (Or.inl rfl)))
    (mss_one (ms_ret (me_tup (ma_cons me_str (ma_cons (me_var (i := 2)) (ma_cons (me_call C.Lsome hr (by rfl) T.g_Lsome T.F_Lsome.kp T.b_Lsome pass0 (ma_cons (me_var (i := 0)) (ma_cons (me_op op_addA s_add (me_var (i := 3)) (me_lst (ma_cons (me_call C.Lanswers hr (by rfl) T.g_Lanswers T.F_Lanswers.kp T.b_Lanswers pass0 (ma_cons (me_var (i := 0)) (ma_cons me_int ma_nil)) (ll_cons (ll_cons ll_nil))) (ma_cons (me_call C.Lanswers hr (by rfl) T.g_Lanswers T.F_Lanswers.kp T.b_Lanswers pass0 (ma_cons (me_var (i := 0)) (ma_cons me_int ma_nil)) (ll_cons (ll_cons ll_nil))) (ma_cons (me_call C.Lanswers hr (by rfl) T.g_Lanswers T.F_Lanswers.kp T.b_Lanswers pass0 (ma_cons (me_var (i := 0)) (ma_cons me_int ma_nil)) (ll_cons (ll_cons ll_nil))) ma_nil))) (fun r M ds M' h => Nat.le_trans ((ln_cons (ln_cons (ln_cons ln_nil))) r M ds M' h) (by decide)))) ma_nil)) (ll_cons (ll_cons ll_nil))) ma_nil))) (fun r M ds M' h => Nat.le_trans ((ln_cons (ln_cons (ln_cons ln_nil))) r M ds M' h) (by decide)))))) mss_nil)
    (mss_cons (ms_asg (me_call C.Lsome hr (by rfl) T.g_Lsome T.F_Lsome.kp T.b_Lsome pass0 (ma_cons (me_var (i := 0)) (ma_cons (me_lc (own := [("_law_person", 5)]) (fun _ _ _ h => mt_lcR1 h) rfl nd (pi_range1 (by rfl) T.z_range (ma_cons (me_var (i := 1)) ma_nil)) (blkOk_by (N := n_Ldeed) (sc := defScope s_Ldeed) (by decide +kernel)) (fun _ _ _ _ _ => mw_name (i := 5) (by decide) nd rfl (Or.inl rfl)) (fun _ _ _ _ _ => (mts_one (mp_cmp (op_neA hr.units) s_ne (me_var (i := 5)) (me_var (i := 2)) (nomark _)))) (fun _ _ _ _ _ => (me_var (i := 5)))) ma_nil)) (ll_cons (ll_cons ll_nil))) (mg_name (i := 4) nd rfl (Or.inl rfl)))
    (mss_cons (ms_if (mp_cmp op_gt s_gt (me_call C.Lroll hr (by rfl) T.g_Lroll T.F_Lroll.kp T.b_Lroll pass0 (ma_cons (me_var (i := 0)) (ma_cons me_int ma_nil)) (ll_cons (ll_cons ll_nil))) me_int (nomark _)) (mss_cons (ms_asg (me_lst (ma_cons (me_tup (ma_cons me_int (ma_cons me_int (ma_cons me_int (ma_cons me_int ma_nil)))) (fun r M ds M' h => Nat.le_trans ((ln_cons (ln_cons (ln_cons (ln_cons ln_nil)))) r M ds M' h) (by decide))) (ma_cons (me_tup (ma_cons me_int (ma_cons me_int (ma_cons me_int (ma_cons me_int ma_nil)))) (fun r M ds M' h => Nat.le_trans ((ln_cons (ln_cons (ln_cons (ln_cons ln_nil)))) r M ds M' h) (by decide))) (ma_cons (me_tup (ma_cons me_int (ma_cons me_int (ma_cons me_int (ma_cons me_int ma_nil)))) (fun r M ds M' h => Nat.le_trans ((ln_cons (ln_cons (ln_cons (ln_cons ln_nil)))) r M ds M' h) (by decide))) (ma_cons (me_tup (ma_cons me_int (ma_cons me_int (ma_cons me_int (ma_cons me_int ma_nil)))) (fun r M ds M' h => Nat.le_trans ((ln_cons (ln_cons (ln_cons (ln_cons ln_nil)))) r M ds M' h) (by decide))) (ma_cons (me_tup (ma_cons me_int (ma_cons me_int (ma_cons me_int (ma_cons me_int ma_nil)))) (fun r M ds M' h => Nat.le_trans ((ln_cons (ln_cons (ln_cons (ln_cons ln_nil)))) r M ds M' h) (by decide))) (ma_cons (me_call C.Lanswers hr (by rfl) T.g_Lanswers T.F_Lanswers.kp T.b_Lanswers pass0 (ma_cons (me_var (i := 0)) (ma_cons me_int ma_nil)) (ll_cons (ll_cons ll_nil))) (ma_cons (me_call C.Lanswers hr (by rfl) T.g_Lanswers T.F_Lanswers.kp T.b_Lanswers pass0 (ma_cons (me_var (i := 0)) (ma_cons me_int ma_nil)) (ll_cons (ll_cons ll_nil))) ma_nil))))))) (fun r M ds M' h => Nat.le_trans ((ln_cons (ln_cons (ln_cons (ln_cons (ln_cons (ln_cons (ln_cons ln_nil))))))) r M ds M' h) (by decide))) (mg_name (i := 3) nd rfl (Or.inl rfl)))
    (mss_one (ms_ret (me_tup (ma_cons me_str (ma_cons (me_var (i := 2)) (ma_cons (me_var (i := 4)) (ma_cons (me_call C.Lsome hr (by rfl) T.g_Lsome T.F_Lsome.kp T.b_Lsome pass0 (ma_cons (me_var (i := 0)) (ma_cons (me_var (i := 3)) ma_nil)) (ll_cons (ll_cons ll_nil))) ma_nil)))) (fun r M ds M' h => Nat.le_trans ((ln_cons (ln_cons (ln_cons (ln_cons ln_nil)))) r M ds M' h) (by decide)))))) mss_nil)
    (mss_one (ms_ret (me_tup (ma_cons me_str (ma_cons (me_var (i := 2)) (ma_cons (me_var (i := 4)) (ma_cons (me_call C.Lsome hr (by rfl) T.g_Lsome T.F_Lsome.kp T.b_Lsome pass0 (ma_cons (me_var (i := 0)) (ma_cons (me_lst (ma_cons me_str (ma_cons me_str (ma_cons me_str ma_nil))) (fun r M ds M' h => Nat.le_trans ((ln_cons (ln_cons (ln_cons ln_nil))) r M ds M' h) (by decide))) ma_nil)) (ll_cons (ll_cons ll_nil))) ma_nil)))) (fun r M ds M' h => Nat.le_trans ((ln_cons (ln_cons (ln_cons (ln_cons ln_nil)))) r M ds M' h) (by decide)))))))))
theorem ok_Litems (T : Tx K mg) {k : Nat} {cl : Fid → FC} (C : Cl P w base T k cl) : FnOk P w K mg base CX0 (k + 1) T.a_Litems T.d_Litems ["_law_cup_here", "_law_named_here", "_law_most", "_law_deep"] (spM K 4 (mFun 11 (B_Litems cl))) :=
  have nd := sc_Litems.nd
  m_fn T.F_Litems sc_Litems fun cdv A outer s H E hr => (mss_cons (ms_asg (me_tup ma_nil (fun r M ds M' h => Nat.le_trans (ln_nil r M ds M' h) (by decide))) (mg_name (i := 4) nd rfl (Or.inl rfl)))
    (mss_cons (ms_forR1 PassesOwn.never rfl (by rfl) T.z_range (ma_cons (me_call C.Lroll hr (by rfl) T.g_Lroll T.F_Lroll.kp T.b_Lroll pass0 (ma_cons (me_var (i := 0)) (ma_cons (me_op op_addA s_add (me_var (i := 2)) me_int) ma_nil)) (ll_cons (ll_cons ll_nil))) ma_nil) (mg_name (i := 5) nd rfl (Or.inl rfl)) (mss_one (ms_if (mw_and (mp_cmp op_gt s_gt (me_var (i := 1)) me_int (nomark _)) (mw_and (mp_cmp op_gt s_gt (me_var (i := 3)) me_int (nomark _)) (mw_and1 (mp_cmp (op_eqA hr.units) s_eq (me_call C.Lroll hr (by rfl) T.g_Lroll T.F_Lroll.kp T.b_Lroll pass0 (ma_cons (me_var (i := 0)) (ma_cons me_int ma_nil)) (ll_cons (ll_cons ll_nil))) me_int (nomark _))))).pt (mss_cons (ms_asg (me_call C.Lroll hr (by rfl) T.g_Lroll T.F_Lroll.kp T.b_Lroll pass0 (ma_cons (me_var (i := 0)) (ma_cons (me_var (i := 1)) ma_nil)) (ll_cons (ll_cons ll_nil))) (mg_name (i := 6) nd rfl (Or.inr rfl)))
    (mss_cons (ms_asg (me_call C.Lsome hr (by rfl) T.g_Lsome T.F_Lsome.kp T.b_Lsome pass0 (ma_cons (me_var (i := 0)) (ma_cons (me_lc (own := [("_law_person", 10)]) (fun _ _ _ h => mt_lcR1 h) rfl nd (pi_range1 (by rfl) T.z_range (ma_cons (me_var (i := 1)) ma_nil)) (blkOk_by (N := n_Litems) (sc := defScope s_Litems) (by decide +kernel)) (fun _ _ _ _ _ => mw_name (i := 10) (by decide) nd rfl (Or.inl rfl)) (fun _ _ _ _ _ => (mts_one (mp_cmp (op_neA hr.units) s_ne (me_var (i := 10)) (me_var (i := 6)) (nomark _)))) (fun _ _ _ _ _ => (me_var (i := 10)))) ma_nil)) (ll_cons (ll_cons ll_nil))) (mg_name (i := 7) nd rfl (Or.inl rfl)))
    (mss_cons (ms_par2 (i := 8) (j := 9) rfl nd rfl rfl (by decide) rfl rfl (ma_cons (me_call C.Litems hr (by rfl) T.g_Litems T.F_Litems.kp T.b_Litems pass0 (ma_cons (me_var (i := 0)) (ma_cons (me_var (i := 1)) (ma_cons (me_op op_fdiv s_div (me_var (i := 2)) me_int) (ma_cons (me_op op_sub s_sub (me_var (i := 3)) me_int) ma_nil)))) (ll_cons (ll_cons (ll_cons (ll_cons ll_nil))))) (ma_cons (me_call C.Litems hr (by rfl) T.g_Litems T.F_Litems.kp T.b_Litems pass0 (ma_cons (me_var (i := 0)) (ma_cons (me_var (i := 1)) (ma_cons (me_op op_fdiv s_div (me_var (i := 2)) me_int) (ma_cons (me_op op_sub s_sub (me_var (i := 3)) me_int) ma_nil)))) (ll_cons (ll_cons (ll_cons (ll_cons ll_nil))))) ma_nil)) (by rfl))
    (mss_one (ms_asg (me_op op_addA s_add (me_var (i := 4)) (me_tup (ma_cons (me_tup (ma_cons me_str (ma_cons (me_var (i := 6)) (ma_cons (me_var (i := 7)) (ma_cons (me_var (i := 8)) (ma_cons (me_var (i := 9)) ma_nil))))) (fun r M ds M' h => Nat.le_trans ((ln_cons (ln_cons (ln_cons (ln_cons (ln_cons ln_nil))))) r M ds M' h) (by decide))) ma_nil) (fun r M ds M' h => Nat.le_trans ((ln_cons ln_nil) r M ds M' h) (by decide)))) (mg_name (i := 4) nd rfl (Or.inl rfl))))))) (mss_one (ms_asg (me_op op_addA s_add (me_var (i := 4)) (me_tup (ma_cons (me_call C.Ldeed hr (by rfl) T.g_Ldeed T.F_Ldeed.kp T.b_Ldeed pass0 (ma_cons (me_var (i := 0)) (ma_cons (me_var (i := 1)) ma_nil)) (ll_cons (ll_cons ll_nil))) ma_nil) (fun r M ds M' h => Nat.le_trans ((ln_cons ln_nil) r M ds M' h) (by decide)))) (mg_name (i := 4) nd rfl (Or.inl rfl)))))))
    (mss_one (ms_ret (me_var (i := 4))))))
theorem ok_Lcount (T : Tx K mg) {k : Nat} {cl : Fid → FC} (C : Cl P w base T k cl) : FnOk P w K mg base CX0 (k + 1) T.a_Lcount T.d_Lcount ["_law_script_here"] (spM K 1 (mFun 3 (B_Lcount cl))) :=
  have nd := sc_Lcount.nd
  m_fn T.F_Lcount sc_Lcount fun cdv A outer s H E hr => (mss_cons (ms_asg me_int (mg_name (i := 1) nd rfl (Or.inl rfl)))
    (mss_cons (ms_forT PassesOwn.never rfl (me_var (i := 0)) (mg_name (i := 2) nd rfl (Or.inl rfl)) (mss_one (ms_asg (me_op op_addA s_add (me_op op_addA s_add (me_var (i := 1)) me_int) (me_if (mp_cmp (op_eqA hr.units) s_eq (me_ix ix_A s_ix (me_var (i := 2)) me_int (fun _ _ => rfl)) me_str (nomark _)) (me_op op_addA s_add (me_call C.Lcount hr (by rfl) T.g_Lcount T.F_Lcount.kp T.b_Lcount pass0 (ma_cons (me_ix ix_A s_ix (me_var (i := 2)) me_int (fun _ _ => rfl)) ma_nil) (ll_cons ll_nil)) (me_call C.Lcount hr (by rfl) T.g_Lcount T.F_Lcount.kp T.b_Lcount pass0 (ma_cons (me_ix ix_A s_ix (me_var (i := 2)) me_int (fun _ _ => rfl)) ma_nil) (ll_cons ll_nil))) me_int)) (mg_name (i := 1) nd rfl (Or.inl rfl)))))
    (mss_one (ms_ret (me_var (i := 1))))))
theorem ok_Lscript (T : Tx K mg) {k : Nat} {cl : Fid → FC} (C : Cl P w base T k cl) : FnOk P w K mg base CX0 (k + 1) T.a_Lscript T.d_Lscript ["_law_cup_here", "_law_named_here", "_law_most", "_law_deep"] (spM K 4 (mFun 5 (B_Lscript cl))) :=
  have nd := sc_Lscript.nd
  m_fn T.F_Lscript sc_Lscript fun cdv A outer s H E hr => (mss_cons (ms_asg (me_call C.Litems hr (by rfl) T.g_Litems T.F_Litems.kp T.b_Litems pass0 (ma_cons (me_var (i := 0)) (ma_cons (me_var (i := 1)) (ma_cons (me_var (i := 2)) (ma_cons (me_var (i := 3)) ma_nil)))) (ll_cons (ll_cons (ll_cons (ll_cons ll_nil))))) (mg_name (i := 4) nd rfl (Or.inl rfl)))
    (mss_cons (ms_while 100 PassesOwn.never (mp_cmp op_gt s_gt (me_call C.Lcount hr (by rfl) T.g_Lcount T.F_Lcount.kp T.b_Lcount pass0 (ma_cons (me_var (i := 4)) ma_nil) (ll_cons ll_nil)) me_int (nomark _)) (mss_one (ms_asg (me_sl (me_var (i := 4)) (mo_some me_int) mo_no) (mg_name (i := 4) nd rfl (Or.inl rfl)))))
    (mss_one (ms_ret (me_var (i := 4))))))
theorem ok_Lis_two (T : Tx K mg) {k : Nat} {cl : Fid → FC} (C : Cl P w base T k cl) : FnOk P w K mg base CX0 (k + 1) T.a_Lis_two T.d_Lis_two ["_law_named_here", "_law_value"] (spM K 2 (mFun 2 (B_Lis_two cl))) :=
  have nd := sc_Lis_two.nd
  m_fn T.F_Lis_two sc_Lis_two fun cdv A outer s H E hr => (mss_one (ms_ret (me_and (me_call C.Lare_whole hr (by rfl) T.g_Lare_whole T.F_Lare_whole.kp T.b_Lare_whole pass0 (ma_cons (me_var (i := 1)) (ma_cons me_int (ma_cons (me_op op_sub s_sub (me_var (i := 0)) me_int) ma_nil))) (ll_cons (ll_cons (ll_cons ll_nil)))) (me_and (me_cmp (op_eqA hr.units) s_eq (me_fn call_len_seq s_len (by rfl) T.z_len (by decide +kernel) (ma_cons (me_var (i := 1)) ma_nil)) me_int (nomark _)) (me_one (me_cmp (op_neA hr.units) s_ne (me_ix ix_A s_ix (me_var (i := 1)) me_int (fun _ _ => rfl)) (me_ix ix_A s_ix (me_var (i := 1)) me_int (fun _ _ => rfl)) (nomark _)))))))
theorem ok_Lis_deed (T : Tx K mg) {k : Nat} {cl : Fid → FC} (C : Cl P w base T k cl) : FnOk P w K mg base CX0 (k + 1) T.a_Lis_deed T.d_Lis_deed ["_law_named_here", "_law_value"] (spM K 2 (mFun 2 (B_Lis_deed cl))) :=
  have nd := sc_Lis_deed.nd
  m_fn T.F_Lis_deed sc_Lis_deed fun cdv A outer s H E hr => (mss_cons (ms_if (mp_cmp (op_eqA hr.units) s_eq (me_ix ix_A s_ix (me_var (i := 1)) me_int (fun _ _ => rfl)) me_str (nomark _)) (mss_one (ms_ret (me_and (me_cmp (op_eqA hr.units) s_eq (me_fn call_len_seq s_len (by rfl) T.z_len (by decide +kernel) (ma_cons (me_var (i := 1)) ma_nil)) me_int (nomark _)) (me_and (me_call C.Lare_whole hr (by rfl) T.g_Lare_whole T.F_Lare_whole.kp T.b_Lare_whole pass0 (ma_cons (me_sl (me_var (i := 1)) (mo_some me_int) (mo_some me_int)) (ma_cons me_int (ma_cons (me_op op_sub s_sub (me_var (i := 0)) me_int) ma_nil))) (ll_cons (ll_cons (ll_cons ll_nil)))) (me_and (me_call C.Lare_whole hr (by rfl) T.g_Lare_whole T.F_Lare_whole.kp T.b_Lare_whole pass0 (ma_cons (me_ix ix_A s_ix (me_var (i := 1)) me_int (fun _ _ => rfl)) (ma_cons me_int (ma_cons me_int ma_nil))) (ll_cons (ll_cons (ll_cons ll_nil)))) (me_one (me_cmp (op_eqA hr.units) s_eq (me_fn call_len_seq s_len (by rfl) T.z_len (by decide +kernel) (ma_cons (me_ix ix_A s_ix (me_var (i := 1)) me_int (fun _ _ => rfl)) ma_nil)) me_int (nomark _)))))))) mss_nil)
    (mss_cons (ms_if (mw_or (mp_cmp (op_neA hr.units) s_ne (me_fn call_len_seq s_len (by rfl) T.z_len (by decide +kernel) (ma_cons (me_var (i := 1)) ma_nil)) me_int (nomark _)) (mw_or1 (mp_not (mp_val (me_call C.Lis_two hr (by rfl) T.g_Lis_two T.F_Lis_two.kp T.b_Lis_two pass0 (ma_cons (me_var (i := 0)) (ma_cons (me_sl (me_var (i := 1)) (mo_some me_int) (mo_some me_int)) ma_nil)) (ll_cons (ll_cons ll_nil))))))).pt (mss_one (ms_ret me_bl)) mss_nil)
    (mss_cons (ms_if (mp_cmp (op_eqA hr.units) s_eq (me_ix ix_A s_ix (me_var (i := 1)) me_int (fun _ _ => rfl)) me_str (nomark _)) (mss_one (ms_ret (me_and (me_call C.Lare_whole hr (by rfl) T.g_Lare_whole T.F_Lare_whole.kp T.b_Lare_whole pass0 (ma_cons (me_ix ix_A s_ix (me_var (i := 1)) me_int (fun _ _ => rfl)) (ma_cons me_int (ma_cons me_int ma_nil))) (ll_cons (ll_cons (ll_cons ll_nil)))) (me_one (me_cmp (op_eqA hr.units) s_eq (me_fn call_len_seq s_len (by rfl) T.z_len (by decide +kernel) (ma_cons (me_ix ix_A s_ix (me_var (i := 1)) me_int (fun _ _ => rfl)) ma_nil)) me_int (nomark _)))))) mss_nil)
    (mss_one (ms_ret (me_and (me_cmp (op_eqA hr.units) s_eq (me_ix ix_A s_ix (me_var (i := 1)) me_int (fun _ _ => rfl)) me_str (nomark _)) (me_and (me_isi ty_str (by rfl) T.z_isinstance (by decide +kernel) (by rfl) T.z_str (by decide +kernel) (me_ix ix_A s_ix (me_var (i := 1)) me_int (fun _ _ => rfl))) (me_one (me_cmp (op_inA (room65 hr)) s_in (me_ix ix_A s_ix (me_var (i := 1)) me_int (fun _ _ => rfl)) (me_tup (ma_cons me_str (ma_cons me_str (ma_cons me_str ma_nil))) (fun r M ds M' h => Nat.le_trans ((ln_cons (ln_cons (ln_cons ln_nil))) r M ds M' h) (by decide))) (by rfl))))))))))
theorem ok_Lmeasured (T : Tx K mg) {k : Nat} {cl : Fid → FC} (C : Cl P w base T k cl) : FnOk P w K mg base CX0 (k + 1) T.a_Lmeasured T.d_Lmeasured ["_law_named_here", "_law_value"] (spM K 2 (mFun 8 (B_Lmeasured cl))) :=
  have nd := sc_Lmeasured.nd
  m_fn T.F_Lmeasured sc_Lmeasured fun cdv A outer s H E hr => (mss_cons (ms_if (mp_not (mp_val (me_isi ty_tuple (by rfl) T.z_isinstance (by decide +kernel) (by rfl) T.z_tuple (by decide +kernel) (me_var (i := 1))))) (mss_one (ms_ret me_non)) mss_nil)
    (mss_cons (ms_asg (me_tup (ma_cons me_int (ma_cons me_int (ma_cons me_int ma_nil))) (fun r M ds M' h => Nat.le_trans ((ln_cons (ln_cons (ln_cons ln_nil))) r M ds M' h) (by decide))) (mg_tup rfl (mgs_cons (mg_name (i := 2) nd rfl (Or.inl rfl)) (mgs_cons (mg_name (i := 3) nd rfl (Or.inl rfl)) (mgs_cons (mg_name (i := 4) nd rfl (Or.inl rfl)) mgs_nil)))))
    (mss_cons (ms_forT PassesOwn.never rfl (me_var (i := 1)) (mg_name (i := 5) nd rfl (Or.inl rfl)) (mss_cons (ms_if (mw_or (mp_not (mp_val (me_isi ty_tuple (by rfl) T.z_isinstance (by decide +kernel) (by rfl) T.z_tuple (by decide +kernel) (me_var (i := 5))))) (mw_or (mp_cmp (op_eqA hr.units) s_eq (me_var (i := 5)) (me_tup ma_nil (fun r M ds M' h => Nat.le_trans (ln_nil r M ds M' h) (by decide))) (nomark _)) (mw_or1 (mp_not (mp_val (me_isi ty_str (by rfl) T.z_isinstance (by decide +kernel) (by rfl) T.z_str (by decide +kernel) (me_ix ix_A s_ix (me_var (i := 5)) me_int (fun _ _ => rfl)))))))).pt (mss_one (ms_ret me_non)) mss_nil)
    (mss_one (ms_if (mp_cmp (op_eqA hr.units) s_eq (me_ix ix_A s_ix (me_var (i := 5)) me_int (fun _ _ => rfl)) me_str (nomark _)) (mss_cons (ms_if (mw_or (mp_cmp (op_neA hr.units) s_ne (me_fn call_len_seq s_len (by rfl) T.z_len (by decide +kernel) (ma_cons (me_var (i := 5)) ma_nil)) me_int (nomark _)) (mw_or1 (mp_not (mp_val (me_call C.Lis_two hr (by rfl) T.g_Lis_two T.F_Lis_two.kp T.b_Lis_two pass0 (ma_cons (me_var (i := 0)) (ma_cons (me_sl (me_var (i := 5)) (mo_some me_int) (mo_some me_int)) ma_nil)) (ll_cons (ll_cons ll_nil))))))).pt (mss_one (ms_ret me_non)) mss_nil)
    (mss_cons (ms_setLc (i := 6) (own := [("_law_part", 7)]) (fun _ _ _ h => mt_lcT h) rfl nd rfl rfl (sw_true rfl rfl rfl (by decide +kernel)) (pi_tup (me_sl (me_var (i := 5)) (mo_some me_int) mo_no)) (blkOk_by (N := n_Lmeasured) (sc := defScope s_Lmeasured) (by decide +kernel)) (fun _ _ _ _ _ => mw_name (i := 7) (by decide) nd rfl (Or.inl rfl)) (fun _ _ _ _ _ => mts_nil) (fun _ _ _ _ _ => (me_call C.Lmeasured hr (by rfl) T.g_Lmeasured T.F_Lmeasured.kp T.b_Lmeasured pass0 (ma_cons (me_var (i := 0)) (ma_cons (me_var (i := 7)) ma_nil)) (ll_cons (ll_cons ll_nil)))))
    (mss_cons (ms_if (mp_cmp (op_inA (room65 hr)) s_in me_non (me_var (i := 6)) (by rfl)) (mss_one (ms_ret me_non)) mss_nil)
    (mss_cons (ms_par2 (i := 2) (j := 3) rfl nd rfl rfl (by decide) rfl rfl (ma_cons (me_op op_addA s_add (me_op op_addA s_add (me_var (i := 2)) (me_ix ix_A s_ix (me_ix ix_A s_ix (me_var (i := 6)) me_int (fun _ _ => rfl)) me_int (fun _ _ => rfl))) (me_ix ix_A s_ix (me_ix ix_A s_ix (me_var (i := 6)) me_int (fun _ _ => rfl)) me_int (fun _ _ => rfl))) (ma_cons (me_op op_addA s_add (me_op op_addA s_add (me_op op_addA s_add (me_var (i := 3)) me_int) (me_ix ix_A s_ix (me_ix ix_A s_ix (me_var (i := 6)) me_int (fun _ _ => rfl)) me_int (fun _ _ => rfl))) (me_ix ix_A s_ix (me_ix ix_A s_ix (me_var (i := 6)) me_int (fun _ _ => rfl)) me_int (fun _ _ => rfl))) ma_nil)) (by rfl))
    (mss_one (ms_asg (me_fn (call_maxA rfl) s_max (by rfl) T.z_max (by decide +kernel) (ma_cons (me_var (i := 4)) (ma_cons (me_op op_addA s_add me_int (me_ix ix_A s_ix (me_ix ix_A s_ix (me_var (i := 6)) me_int (fun _ _ => rfl)) me_int (fun _ _ => rfl))) (ma_cons (me_op op_addA s_add me_int (me_ix ix_A s_ix (me_ix ix_A s_ix (me_var (i := 6)) me_int (fun _ _ => rfl)) me_int (fun _ _ => rfl))) ma_nil)))) (mg_name (i := 4) nd rfl (Or.inl rfl)))))))) (mss_one (ms_if (mp_val (me_call C.Lis_deed hr (by rfl) T.g_Lis_deed T.F_Lis_deed.kp T.b_Lis_deed pass0 (ma_cons (me_var (i := 0)) (ma_cons (me_var (i := 5)) ma_nil)) (ll_cons (ll_cons ll_nil)))) (mss_one (ms_asg (me_op op_addA s_add (me_var (i := 2)) me_int) (mg_name (i := 2) nd rfl (Or.inl rfl)))) (mss_one (ms_ret me_non))))))))
    (mss_one (ms_ret (me_tup (ma_cons (me_var (i := 2)) (ma_cons (me_var (i := 3)) (ma_cons (me_var (i := 4)) ma_nil))) (fun r M ds M' h => Nat.le_trans ((ln_cons (ln_cons (ln_cons ln_nil))) r M ds M' h) (by decide))))))))
theorem ok_Ljudged (T : Tx K mg) {k : Nat} {cl : Fid → FC} (C : Cl P w base T k cl) : FnOk P w K mg base CX0 (k + 1) T.a_Ljudged T.d_Ljudged ["_law_named_here", "_law_value"] (spM K 2 (mFun 3 (B_Ljudged cl))) :=
  have nd := sc_Ljudged.nd
  m_fn T.F_Ljudged sc_Ljudged fun cdv A outer s H E hr => (mss_cons (ms_asg (me_call C.Lmeasured hr (by rfl) T.g_Lmeasured T.F_Lmeasured.kp T.b_Lmeasured pass0 (ma_cons (me_var (i := 0)) (ma_cons (me_var (i := 1)) ma_nil)) (ll_cons (ll_cons ll_nil))) (mg_name (i := 2) nd rfl (Or.inl rfl)))
    (mss_one (ms_ret (me_and (me_cmp op_isNotA s_isNot (me_var (i := 2)) me_non (nomark _)) (me_and (me_cmp op_le s_le (me_op op_addA s_add (me_ix ix_A s_ix (me_var (i := 2)) me_int (fun _ _ => rfl)) (me_ix ix_A s_ix (me_var (i := 2)) me_int (fun _ _ => rfl))) me_int (nomark _)) (me_one (me_cmp op_le s_le (me_ix ix_A s_ix (me_var (i := 2)) me_int (fun _ _ => rfl)) me_int (nomark _))))))))
theorem ok_Lbent (T : Tx K mg) {k : Nat} {cl : Fid → FC} (C : Cl P w base T k cl) : FnOk P w K mg base CX0 (k + 1) T.a_Lbent T.d_Lbent ["_law_cup_here", "_law_script_here"] (spM K 2 (mFun 8 (B_Lbent cl))) :=
  have nd := sc_Lbent.nd
  m_fn T.F_Lbent sc_Lbent fun cdv A outer s H E hr => (mss_cons (ms_asg (me_call C.Lsome hr (by rfl) T.g_Lsome T.F_Lsome.kp T.b_Lsome pass0 (ma_cons (me_var (i := 0)) (ma_cons (me_lst (ma_cons (me_un un_neg s_neg me_int) (ma_cons me_int (ma_cons me_int (ma_cons me_int (ma_cons me_int (ma_cons me_non (ma_cons me_bl (ma_cons me_str (ma_cons me_str (ma_cons me_str (ma_cons (me_tup ma_nil (fun r M ds M' h => Nat.le_trans (ln_nil r M ds M' h) (by decide))) (ma_cons (me_tup (ma_cons me_int (ma_cons me_int ma_nil)) (fun r M ds M' h => Nat.le_trans ((ln_cons (ln_cons ln_nil)) r M ds M' h) (by decide))) (ma_cons (me_tup (ma_cons me_int (ma_cons me_int (ma_cons me_int (ma_cons me_int ma_nil)))) (fun r M ds M' h => Nat.le_trans ((ln_cons (ln_cons (ln_cons (ln_cons ln_nil)))) r M ds M' h) (by decide))) ma_nil))))))))))))) (fun r M ds M' h => Nat.le_trans ((ln_cons (ln_cons (ln_cons (ln_cons (ln_cons (ln_cons (ln_cons (ln_cons (ln_cons (ln_cons (ln_cons (ln_cons (ln_cons ln_nil))))))))))))) r M ds M' h) (by decide))) ma_nil)) (ll_cons (ll_cons ll_nil))) (mg_name (i := 2) nd rfl (Or.inl rfl)))
    (mss_cons (ms_if (mw_or (mp_cmp (op_eqA hr.units) s_eq (me_var (i := 1)) (me_tup ma_nil (fun r M ds M' h => Nat.le_trans (ln_nil r M ds M' h) (by decide))) (nomark _)) (mw_or1 (mp_cmp (op_eqA hr.units) s_eq (me_call C.Lroll hr (by rfl) T.g_Lroll T.F_Lroll.kp T.b_Lroll pass0 (ma_cons (me_var (i := 0)) (ma_cons me_int ma_nil)) (ll_cons (ll_cons ll_nil))) me_int (nomark _)))).pt (mss_one (ms_ret (me_call C.Lsome hr (by rfl) T.g_Lsome T.F_Lsome.kp T.b_Lsome pass0 (ma_cons (me_var (i := 0)) (ma_cons (me_lst (ma_cons (me_var (i := 2)) (ma_cons (me_op op_addA s_add (me_var (i := 1)) (me_tup (ma_cons (me_var (i := 2)) ma_nil) (fun r M ds M' h => Nat.le_trans ((ln_cons ln_nil) r M ds M' h) (by decide)))) (ma_cons (me_ty call_list_of s_list (by rfl) T.z_list (by decide +kernel) (ma_cons (me_var (i := 1)) ma_nil)) (ma_cons (me_tup (ma_cons (me_var (i := 1)) ma_nil) (fun r M ds M' h => Nat.le_trans ((ln_cons ln_nil) r M ds M' h) (by decide))) (ma_cons (me_op op_addA s_add (me_op op_addA s_add (me_op op_addA s_add (me_var (i := 1)) (me_var (i := 1))) (me_var (i := 1))) (me_var (i := 1))) ma_nil))))) (fun r M ds M' h => Nat.le_trans ((ln_cons (ln_cons (ln_cons (ln_cons (ln_cons ln_nil))))) r M ds M' h) (by decide))) ma_nil)) (ll_cons (ll_cons ll_nil))))) mss_nil)
    (mss_cons (ms_asg (me_call C.Lroll hr (by rfl) T.g_Lroll T.F_Lroll.kp T.b_Lroll pass0 (ma_cons (me_var (i := 0)) (ma_cons (me_fn call_len_seq s_len (by rfl) T.z_len (by decide +kernel) (ma_cons (me_var (i := 1)) ma_nil)) ma_nil)) (ll_cons (ll_cons ll_nil))) (mg_name (i := 3) nd rfl (Or.inl rfl)))
    (mss_cons (ms_asg (me_ix ix_A s_ix (me_var (i := 1)) (me_var (i := 3)) (fun _ _ => rfl)) (mg_name (i := 4) nd rfl (Or.inl rfl)))
    (mss_cons (ms_asg (me_call C.Lroll hr (by rfl) T.g_Lroll T.F_Lroll.kp T.b_Lroll pass0 (ma_cons (me_var (i := 0)) (ma_cons (me_fn call_len_seq s_len (by rfl) T.z_len (by decide +kernel) (ma_cons (me_var (i := 4)) ma_nil)) ma_nil)) (ll_cons (ll_cons ll_nil))) (mg_name (i := 5) nd rfl (Or.inl rfl)))
    (mss_cons (ms_asg (me_ix ix_A s_ix (me_var (i := 4)) (me_var (i := 5)) (fun _ _ => rfl)) (mg_name (i := 6) nd rfl (Or.inl rfl)))
    (mss_cons (ms_asg (me_lst (ma_cons (me_op op_addA s_add (me_op op_addA s_add (me_sl (me_var (i := 4)) mo_no (mo_some (me_var (i := 5)))) (me_tup (ma_cons (me_var (i := 2)) ma_nil) (fun r M ds M' h => Nat.le_trans ((ln_cons ln_nil) r M ds M' h) (by decide)))) (me_sl (me_var (i := 4)) (mo_some (me_op op_addA s_add (me_var (i := 5)) me_int)) mo_no)) (ma_cons (me_op op_addA s_add (me_sl (me_var (i := 4)) mo_no (mo_some (me_var (i := 5)))) (me_sl (me_var (i := 4)) (mo_some (me_op op_addA s_add (me_var (i := 5)) me_int)) mo_no)) (ma_cons (me_op op_addA s_add (me_var (i := 4)) (me_tup (ma_cons (me_var (i := 2)) ma_nil) (fun r M ds M' h => Nat.le_trans ((ln_cons ln_nil) r M ds M' h) (by decide)))) (ma_cons (me_ty call_list_of s_list (by rfl) T.z_list (by decide +kernel) (ma_cons (me_var (i := 4)) ma_nil)) ma_nil)))) (fun r M ds M' h => Nat.le_trans ((ln_cons (ln_cons (ln_cons (ln_cons ln_nil)))) r M ds M' h) (by decide))) (mg_name (i := 7) nd rfl (Or.inl rfl)))
    (mss_cons (ms_if (mp_val (me_isi ty_tuple (by rfl) T.z_isinstance (by decide +kernel) (by rfl) T.z_tuple (by decide +kernel) (me_var (i := 6)))) (mss_one (ms_asg (me_op op_addA s_add (me_var (i := 7)) (me_op op_mulA s_mul (me_lst (ma_cons (me_op op_addA s_add (me_op op_addA s_add (me_sl (me_var (i := 4)) mo_no (mo_some (me_var (i := 5)))) (me_tup (ma_cons (me_if (mp_cmp (op_eqA hr.units) s_eq (me_ix ix_A s_ix (me_var (i := 4)) me_int (fun _ _ => rfl)) me_str (nomark _)) (me_call C.Lbent hr (by rfl) T.g_Lbent T.F_Lbent.kp T.b_Lbent pass0 (ma_cons (me_var (i := 0)) (ma_cons (me_var (i := 6)) ma_nil)) (ll_cons (ll_cons ll_nil))) (me_op op_addA s_add (me_sl (me_var (i := 6)) (mo_some me_int) mo_no) (me_tup (ma_cons (me_var (i := 2)) ma_nil) (fun r M ds M' h => Nat.le_trans ((ln_cons ln_nil) r M ds M' h) (by decide))))) ma_nil) (fun r M ds M' h => Nat.le_trans ((ln_cons ln_nil) r M ds M' h) (by decide)))) (me_sl (me_var (i := 4)) (mo_some (me_op op_addA s_add (me_var (i := 5)) me_int)) mo_no)) ma_nil) (fun r M ds M' h => Nat.le_trans ((ln_cons ln_nil) r M ds M' h) (by decide))) me_int)) (mg_name (i := 7) nd rfl (Or.inl rfl)))) mss_nil)
    (mss_one (ms_ret (me_op op_addA s_add (me_op op_addA s_add (me_sl (me_var (i := 1)) mo_no (mo_some (me_var (i := 3)))) (me_tup (ma_cons (me_call C.Lsome hr (by rfl) T.g_Lsome T.F_Lsome.kp T.b_Lsome pass0 (ma_cons (me_var (i := 0)) (ma_cons (me_var (i := 7)) ma_nil)) (ll_cons (ll_cons ll_nil))) ma_nil) (fun r M ds M' h => Nat.le_trans ((ln_cons ln_nil) r M ds M' h) (by decide)))) (me_sl (me_var (i := 1)) (mo_some (me_op op_addA s_add (me_var (i := 3)) me_int)) mo_no))))))))))))
theorem all_ok (T : Tx K mg) : ∀ k : Nat, Cl P w base T k (G k)
  | 0 => ⟨fn0, fn0, fn0, fn0, fn0, fn0, fn0, fn0, fn0, fn0, fn0, fn0, fn0, fn0, fn0, fn0, fn0, fn0, fn0, fn0, fn0, fn0, fn0, fn0, fn0, fn0, fn0, fn0, fn0, fn0, fn0⟩
  | k + 1 => ⟨ok_p_is_integer T (all_ok T k), ok_p_is_between T (all_ok T k), ok_p_is_tuple_of T (all_ok T k), ok_p_are_answers T (all_ok T k), ok_p_are_two_named T (all_ok T k), ok_p_is_deed_of T (all_ok T k), ok_p_is_asking T (all_ok T k), ok_p_left_behind T (all_ok T k), ok_p_left_behind_item T (all_ok T k), ok_p_is_script_of T (all_ok T k), ok_p_check_named T (all_ok T k), ok_p_check_script T (all_ok T k), ok_p_is_script T (all_ok T k), ok_p_count_deeds T (all_ok T k), ok_p_counted T (all_ok T k), ok_p_depth_of T (all_ok T k), ok_p_deepest T (all_ok T k), ok_Lroll T (all_ok T k), ok_Lsome T (all_ok T k), ok_Lare_whole T (all_ok T k), ok_Lnamed T (all_ok T k), ok_Lanswers T (all_ok T k), ok_Ldeed T (all_ok T k), ok_Litems T (all_ok T k), ok_Lcount T (all_ok T k), ok_Lscript T (all_ok T k), ok_Lis_two T (all_ok T k), ok_Lis_deed T (all_ok T k), ok_Lmeasured T (all_ok T k), ok_Ljudged T (all_ok T k), ok_Lbent T (all_ok T k)⟩
/-- .. and the list's maker -/
structure ClL (P : Program) (w : World) (base : Heap) (T : Tx K mg) (k : Nat) (cl : Fid → FC) : Prop extends Cl P w base T k cl where
  Lcup : FnOk P w K mg base CX0 k T.a_Lcup T.d_Lcup ["_law_script_here"] (spF K 1 g_Lcup)
theorem ok_Law (T : Tx K mg) {k : Nat} {cl : Fid → FC} (C : ClL P w base T k cl) : FnOk P w K mg base CX0 (k + 1) T.a_Law T.d_Law ["_law_script_here"] (spM K 1 (mFun 15 (B_Law cl))) :=
  have nd := sc_Law.nd
  m_fn T.F_Law sc_Law fun cdv A outer s H E hr => (mss_mu (i := 1) C.Lcup hr (by rfl) T.g_Lcup T.F_Lcup.kp T.b_Lcup pass0 (ma_cons (me_var (i := 0)) ma_nil) (ll_cons ll_nil) nd rfl (Or.inl rfl) (mss_cons (ms_forR1 PassesOwn.never rfl (by rfl) T.z_range (ma_cons me_int ma_nil) (mg_name (i := 2) nd rfl (Or.inl rfl)) (mss_cons (ms_asg (me_call C.Lnamed hr (by rfl) T.g_Lnamed T.F_Lnamed.kp T.b_Lnamed pass0 (ma_cons (me_var (i := 1)) ma_nil) (ll_cons ll_nil)) (mg_name (i := 3) nd rfl (Or.inl rfl)))
    (mss_cons (ms_asg (me_call C.Lscript hr (by rfl) T.g_Lscript T.F_Lscript.kp T.b_Lscript pass0 (ma_cons (me_var (i := 1)) (ma_cons (me_var (i := 3)) (ma_cons me_int (ma_cons me_int ma_nil)))) (ll_cons (ll_cons (ll_cons (ll_cons ll_nil))))) (mg_name (i := 4) nd rfl (Or.inl rfl)))
    (mss_cons (ms_asg (me_call C.Lmeasured hr (by rfl) T.g_Lmeasured T.F_Lmeasured.kp T.b_Lmeasured pass0 (ma_cons (me_var (i := 3)) (ma_cons (me_var (i := 4)) ma_nil)) (ll_cons (ll_cons ll_nil))) (mg_tup rfl (mgs_cons (mg_name (i := 5) nd rfl (Or.inl rfl)) (mgs_cons (mg_name (i := 6) nd rfl (Or.inl rfl)) (mgs_cons (mg_name (i := 7) nd rfl (Or.inl rfl)) mgs_nil)))))
    (mss_cons (ms_if (mw_or (mp_cmp op_isNotA s_isNot (me_call C.p_is_script hr (by rfl) T.g_p_is_script T.F_p_is_script.kp T.b_p_is_script pass0 (ma_cons (me_var (i := 3)) (ma_cons (me_var (i := 4)) ma_nil)) (ll_cons (ll_cons ll_nil))) me_bl (nomark _)) (mw_or (mp_cmp (op_neA hr.units) s_ne (me_call C.p_count_deeds hr (by rfl) T.g_p_count_deeds T.F_p_count_deeds.kp T.b_p_count_deeds pass0 (ma_cons (me_var (i := 3)) (ma_cons (me_var (i := 4)) ma_nil)) (ll_cons (ll_cons ll_nil))) (me_tup (ma_cons (me_var (i := 5)) (ma_cons (me_var (i := 6)) ma_nil)) (fun r M ds M' h => Nat.le_trans ((ln_cons (ln_cons ln_nil)) r M ds M' h) (by decide))) (nomark _)) (mw_or1 (mp_cmp (op_neA hr.units) s_ne (me_call C.p_depth_of hr (by rfl) T.g_p_depth_of T.F_p_depth_of.kp T.b_p_depth_of pass0 (ma_cons (me_var (i := 3)) (ma_cons (me_var (i := 4)) ma_nil)) (ll_cons (ll_cons ll_nil))) (me_var (i := 7)) (nomark _))))).pt (mss_one (ms_ret me_bl)) mss_nil)
    (mss_one (ms_forR1 PassesOwn.never rfl (by rfl) T.z_range (ma_cons me_int ma_nil) (mg_name (i := 8) nd rfl (Or.inl rfl)) (mss_cons (ms_asg (me_call C.Lbent hr (by rfl) T.g_Lbent T.F_Lbent.kp T.b_Lbent pass0 (ma_cons (me_var (i := 1)) (ma_cons (me_var (i := 4)) ma_nil)) (ll_cons (ll_cons ll_nil))) (mg_name (i := 9) nd rfl (Or.inl rfl)))
    (mss_cons (ms_asg (me_call C.p_is_script hr (by rfl) T.g_p_is_script T.F_p_is_script.kp T.b_p_is_script pass0 (ma_cons (me_var (i := 3)) (ma_cons (me_var (i := 9)) ma_nil)) (ll_cons (ll_cons ll_nil))) (mg_name (i := 10) nd rfl (Or.inl rfl)))
    (mss_one (ms_if (mw_or (mp_not (mp_val (me_isi ty_bool (by rfl) T.z_isinstance (by decide +kernel) (by rfl) T.z_bool (by decide +kernel) (me_var (i := 10))))) (mw_or1 (mp_cmp (op_neA hr.units) s_ne (me_var (i := 10)) (me_call C.Ljudged hr (by rfl) T.g_Ljudged T.F_Ljudged.kp T.b_Ljudged pass0 (ma_cons (me_var (i := 3)) (ma_cons (me_var (i := 9)) ma_nil)) (ll_cons (ll_cons ll_nil))) (nomark _)))).pt (mss_one (ms_ret me_bl)) mss_nil)))))))))))
    (mss_cons (ms_asg (me_tup (ma_cons (me_tup (ma_cons me_str (ma_cons me_int (ma_cons (me_tup (ma_cons me_int (ma_cons me_int (ma_cons me_int (ma_cons me_int (ma_cons me_int (ma_cons me_int ma_nil)))))) (fun r M ds M' h => Nat.le_trans ((ln_cons (ln_cons (ln_cons (ln_cons (ln_cons (ln_cons ln_nil)))))) r M ds M' h) (by decide))) ma_nil))) (fun r M ds M' h => Nat.le_trans ((ln_cons (ln_cons (ln_cons ln_nil))) r M ds M' h) (by decide))) (ma_cons (me_tup (ma_cons me_str (ma_cons me_int (ma_cons me_int (ma_cons me_str ma_nil)))) (fun r M ds M' h => Nat.le_trans ((ln_cons (ln_cons (ln_cons (ln_cons ln_nil)))) r M ds M' h) (by decide))) ma_nil)) (fun r M ds M' h => Nat.le_trans ((ln_cons (ln_cons ln_nil)) r M ds M' h) (by decide))) (mg_tup rfl (mgs_cons (mg_name (i := 11) nd rfl (Or.inl rfl)) (mgs_cons (mg_name (i := 12) nd rfl (Or.inl rfl)) mgs_nil))))
    (mss_cons (ms_asg (me_tup ma_nil (fun r M ds M' h => Nat.le_trans (ln_nil r M ds M' h) (by decide))) (mg_name (i := 7) nd rfl (Or.inl rfl)))
    (mss_cons (ms_forR1 PassesOwn.never rfl (by rfl) T.z_range (ma_cons me_int ma_nil) (mg_name (i := 2) nd rfl (Or.inl rfl)) (mss_one (ms_asg (me_tup (ma_cons (me_tup (ma_cons me_str (ma_cons me_int (ma_cons me_int (ma_cons (me_var (i := 7)) (ma_cons (me_tup (ma_cons (me_var (i := 12)) ma_nil) (fun r M ds M' h => Nat.le_trans ((ln_cons ln_nil) r M ds M' h) (by decide))) ma_nil))))) (fun r M ds M' h => Nat.le_trans ((ln_cons (ln_cons (ln_cons (ln_cons (ln_cons ln_nil))))) r M ds M' h) (by decide))) ma_nil) (fun r M ds M' h => Nat.le_trans ((ln_cons ln_nil) r M ds M' h) (by decide))) (mg_name (i := 7) nd rfl (Or.inl rfl)))))
    (mss_cons (ms_asg (me_lst (ma_cons (me_tup (ma_cons me_int (ma_cons (me_tup ma_nil (fun r M ds M' h => Nat.le_trans (ln_nil r M ds M' h) (by decide))) (ma_cons me_bl ma_nil))) (fun r M ds M' h => Nat.le_trans ((ln_cons (ln_cons (ln_cons ln_nil))) r M ds M' h) (by decide))) (ma_cons (me_tup (ma_cons me_int (ma_cons (me_tup (ma_cons (me_var (i := 11)) ma_nil) (fun r M ds M' h => Nat.le_trans ((ln_cons ln_nil) r M ds M' h) (by decide))) (ma_cons me_bl ma_nil))) (fun r M ds M' h => Nat.le_trans ((ln_cons (ln_cons (ln_cons ln_nil))) r M ds M' h) (by decide))) (ma_cons (me_tup (ma_cons me_int (ma_cons (me_tup (ma_cons (me_var (i := 12)) ma_nil) (fun r M ds M' h => Nat.le_trans ((ln_cons ln_nil) r M ds M' h) (by decide))) (ma_cons me_bl ma_nil))) (fun r M ds M' h => Nat.le_trans ((ln_cons (ln_cons (ln_cons ln_nil))) r M ds M' h) (by decide))) (ma_cons (me_tup (ma_cons me_int (ma_cons (me_op op_mulA s_mul (me_tup (ma_cons (me_var (i := 12)) ma_nil) (fun r M ds M' h => Nat.le_trans ((ln_cons ln_nil) r M ds M' h) (by decide))) me_int) (ma_cons me_bl ma_nil))) (fun r M ds M' h => Nat.le_trans ((ln_cons (ln_cons (ln_cons ln_nil))) r M ds M' h) (by decide))) (ma_cons (me_tup (ma_cons me_int (ma_cons (me_op op_mulA s_mul (me_tup (ma_cons (me_var (i := 12)) ma_nil) (fun r M ds M' h => Nat.le_trans ((ln_cons ln_nil) r M ds M' h) (by decide))) me_int) (ma_cons me_bl ma_nil))) (fun r M ds M' h => Nat.le_trans ((ln_cons (ln_cons (ln_cons ln_nil))) r M ds M' h) (by decide))) (ma_cons (me_tup (ma_cons me_int (ma_cons (me_var (i := 7)) (ma_cons me_bl ma_nil))) (fun r M ds M' h => Nat.le_trans ((ln_cons (ln_cons (ln_cons ln_nil))) r M ds M' h) (by decide))) (ma_cons (me_tup (ma_cons me_int (ma_cons (me_tup (ma_cons (me_tup (ma_cons me_str (ma_cons me_int (ma_cons me_int (ma_cons (me_var (i := 7)) (ma_cons (me_tup ma_nil (fun r M ds M' h => Nat.le_trans (ln_nil r M ds M' h) (by decide))) ma_nil))))) (fun r M ds M' h => Nat.le_trans ((ln_cons (ln_cons (ln_cons (ln_cons (ln_cons ln_nil))))) r M ds M' h) (by decide))) ma_nil) (fun r M ds M' h => Nat.le_trans ((ln_cons ln_nil) r M ds M' h) (by decide))) (ma_cons me_bl ma_nil))) (fun r M ds M' h => Nat.le_trans ((ln_cons (ln_cons (ln_cons ln_nil))) r M ds M' h) (by decide))) ma_nil))))))) (fun r M ds M' h => Nat.le_trans ((ln_cons (ln_cons (ln_cons (ln_cons (ln_cons (ln_cons (ln_cons ln_nil))))))) r M ds M' h) (by decide))) (mg_name (i := 13) nd rfl (Or.inl rfl)))
    (mss_cons (ms_asg (me_op op_addA s_add (me_var (i := 13)) (me_lst (ma_cons (me_tup (ma_cons me_int (ma_cons (me_tup (ma_cons (me_tup (ma_cons me_str (ma_cons me_int (ma_cons me_int (ma_cons (me_tup ma_nil (fun r M ds M' h => Nat.le_trans (ln_nil r M ds M' h) (by decide))) (ma_cons (me_tup ma_nil (fun r M ds M' h => Nat.le_trans (ln_nil r M ds M' h) (by decide))) ma_nil))))) (fun r M ds M' h => Nat.le_trans ((ln_cons (ln_cons (ln_cons (ln_cons (ln_cons ln_nil))))) r M ds M' h) (by decide))) ma_nil) (fun r M ds M' h => Nat.le_trans ((ln_cons ln_nil) r M ds M' h) (by decide))) (ma_cons me_bl ma_nil))) (fun r M ds M' h => Nat.le_trans ((ln_cons (ln_cons (ln_cons ln_nil))) r M ds M' h) (by decide))) (ma_cons (me_tup (ma_cons me_int (ma_cons (me_tup (ma_cons (me_tup (ma_cons me_str (ma_cons me_int (ma_cons me_int (ma_cons (me_tup ma_nil (fun r M ds M' h => Nat.le_trans (ln_nil r M ds M' h) (by decide))) (ma_cons (me_tup ma_nil (fun r M ds M' h => Nat.le_trans (ln_nil r M ds M' h) (by decide))) ma_nil))))) (fun r M ds M' h => Nat.le_trans ((ln_cons (ln_cons (ln_cons (ln_cons (ln_cons ln_nil))))) r M ds M' h) (by decide))) ma_nil) (fun r M ds M' h => Nat.le_trans ((ln_cons ln_nil) r M ds M' h) (by decide))) (ma_cons me_bl ma_nil))) (fun r M ds M' h => Nat.le_trans ((ln_cons (ln_cons (ln_cons ln_nil))) r M ds M' h) (by decide))) (ma_cons (me_tup (ma_cons me_int (ma_cons (me_tup (ma_cons (me_tup (ma_cons me_str (ma_cons me_int (ma_cons me_int (ma_cons me_str ma_nil)))) (fun r M ds M' h => Nat.le_trans ((ln_cons (ln_cons (ln_cons (ln_cons ln_nil)))) r M ds M' h) (by decide))) ma_nil) (fun r M ds M' h => Nat.le_trans ((ln_cons ln_nil) r M ds M' h) (by decide))) (ma_cons me_bl ma_nil))) (fun r M ds M' h => Nat.le_trans ((ln_cons (ln_cons (ln_cons ln_nil))) r M ds M' h) (by decide))) (ma_cons (me_tup (ma_cons me_int (ma_cons (me_tup (ma_cons (me_tup (ma_cons me_str (ma_cons me_int (ma_cons me_int (ma_cons me_str ma_nil)))) (fun r M ds M' h => Nat.le_trans ((ln_cons (ln_cons (ln_cons (ln_cons ln_nil)))) r M ds M' h) (by decide))) ma_nil) (fun r M ds M' h => Nat.le_trans ((ln_cons ln_nil) r M ds M' h) (by decide))) (ma_cons me_bl ma_nil))) (fun r M ds M' h => Nat.le_trans ((ln_cons (ln_cons (ln_cons ln_nil))) r M ds M' h) (by decide))) ma_nil)))) (fun r M ds M' h => Nat.le_trans ((ln_cons (ln_cons (ln_cons (ln_cons ln_nil)))) r M ds M' h) (by decide)))) (mg_name (i := 13) nd rfl (Or.inl rfl)))
    (mss_cons (ms_asg (me_op op_addA s_add (me_var (i := 13)) (me_lst (ma_cons (me_tup (ma_cons me_int (ma_cons (me_tup (ma_cons (me_tup (ma_cons me_str (ma_cons me_int (ma_cons me_int (ma_cons (me_op op_mulA s_mul (me_tup (ma_cons (me_var (i := 12)) ma_nil) (fun r M ds M' h => Nat.le_trans ((ln_cons ln_nil) r M ds M' h) (by decide))) me_int) (ma_cons (me_op op_mulA s_mul (me_tup (ma_cons (me_var (i := 12)) ma_nil) (fun r M ds M' h => Nat.le_trans ((ln_cons ln_nil) r M ds M' h) (by decide))) me_int) ma_nil))))) (fun r M ds M' h => Nat.le_trans ((ln_cons (ln_cons (ln_cons (ln_cons (ln_cons ln_nil))))) r M ds M' h) (by decide))) ma_nil) (fun r M ds M' h => Nat.le_trans ((ln_cons ln_nil) r M ds M' h) (by decide))) (ma_cons me_bl ma_nil))) (fun r M ds M' h => Nat.le_trans ((ln_cons (ln_cons (ln_cons ln_nil))) r M ds M' h) (by decide))) (ma_cons (me_tup (ma_cons me_int (ma_cons (me_tup (ma_cons (me_tup (ma_cons me_str (ma_cons me_int (ma_cons me_int (ma_cons (me_op op_mulA s_mul (me_tup (ma_cons (me_var (i := 12)) ma_nil) (fun r M ds M' h => Nat.le_trans ((ln_cons ln_nil) r M ds M' h) (by decide))) me_int) (ma_cons (me_op op_mulA s_mul (me_tup (ma_cons (me_var (i := 12)) ma_nil) (fun r M ds M' h => Nat.le_trans ((ln_cons ln_nil) r M ds M' h) (by decide))) me_int) ma_nil))))) (fun r M ds M' h => Nat.le_trans ((ln_cons (ln_cons (ln_cons (ln_cons (ln_cons ln_nil))))) r M ds M' h) (by decide))) ma_nil) (fun r M ds M' h => Nat.le_trans ((ln_cons ln_nil) r M ds M' h) (by decide))) (ma_cons me_bl ma_nil))) (fun r M ds M' h => Nat.le_trans ((ln_cons (ln_cons (ln_cons ln_nil))) r M ds M' h) (by decide))) (ma_cons (me_tup (ma_cons me_int (ma_cons (me_tup (ma_cons (me_tup (ma_cons me_str (ma_cons me_int (ma_cons me_int (ma_cons me_str ma_nil)))) (fun r M ds M' h => Nat.le_trans ((ln_cons (ln_cons (ln_cons (ln_cons ln_nil)))) r M ds M' h) (by decide))) ma_nil) (fun r M ds M' h => Nat.le_trans ((ln_cons ln_nil) r M ds M' h) (by decide))) (ma_cons me_bl ma_nil))) (fun r M ds M' h => Nat.le_trans ((ln_cons (ln_cons (ln_cons ln_nil))) r M ds M' h) (by decide))) ma_nil))) (fun r M ds M' h => Nat.le_trans ((ln_cons (ln_cons (ln_cons ln_nil))) r M ds M' h) (by decide)))) (mg_name (i := 13) nd rfl (Or.inl rfl)))
    (mss_cons (ms_asg (me_op op_addA s_add (me_var (i := 13)) (me_lst (ma_cons (me_tup (ma_cons me_int (ma_cons (me_tup (ma_cons (me_tup (ma_cons me_str (ma_cons me_int (ma_cons (me_op op_mulA s_mul (me_tup (ma_cons me_int ma_nil) (fun r M ds M' h => Nat.le_trans ((ln_cons ln_nil) r M ds M' h) (by decide))) me_int) ma_nil))) (fun r M ds M' h => Nat.le_trans ((ln_cons (ln_cons (ln_cons ln_nil))) r M ds M' h) (by decide))) ma_nil) (fun r M ds M' h => Nat.le_trans ((ln_cons ln_nil) r M ds M' h) (by decide))) (ma_cons me_bl ma_nil))) (fun r M ds M' h => Nat.le_trans ((ln_cons (ln_cons (ln_cons ln_nil))) r M ds M' h) (by decide))) (ma_cons (me_tup (ma_cons me_int (ma_cons (me_tup (ma_cons (me_tup (ma_cons me_str (ma_cons me_int (ma_cons (me_op op_mulA s_mul (me_tup (ma_cons me_int ma_nil) (fun r M ds M' h => Nat.le_trans ((ln_cons ln_nil) r M ds M' h) (by decide))) me_int) ma_nil))) (fun r M ds M' h => Nat.le_trans ((ln_cons (ln_cons (ln_cons ln_nil))) r M ds M' h) (by decide))) ma_nil) (fun r M ds M' h => Nat.le_trans ((ln_cons ln_nil) r M ds M' h) (by decide))) (ma_cons me_bl ma_nil))) (fun r M ds M' h => Nat.le_trans ((ln_cons (ln_cons (ln_cons ln_nil))) r M ds M' h) (by decide))) (ma_cons (me_tup (ma_cons me_int (ma_cons (me_tup (ma_cons (me_tup (ma_cons me_str (ma_cons me_int (ma_cons me_int (ma_cons (me_tup (ma_cons me_int (ma_cons me_int (ma_cons me_int (ma_cons me_int ma_nil)))) (fun r M ds M' h => Nat.le_trans ((ln_cons (ln_cons (ln_cons (ln_cons ln_nil)))) r M ds M' h) (by decide))) ma_nil)))) (fun r M ds M' h => Nat.le_trans ((ln_cons (ln_cons (ln_cons (ln_cons ln_nil)))) r M ds M' h) (by decide))) ma_nil) (fun r M ds M' h => Nat.le_trans ((ln_cons ln_nil) r M ds M' h) (by decide))) (ma_cons me_bl ma_nil))) (fun r M ds M' h => Nat.le_trans ((ln_cons (ln_cons (ln_cons ln_nil))) r M ds M' h) (by decide))) (ma_cons (me_tup (ma_cons me_int (ma_cons (me_tup (ma_cons (me_tup (ma_cons me_str (ma_cons me_int (ma_cons me_int (ma_cons (me_tup (ma_cons me_int (ma_cons me_int (ma_cons me_bl (ma_cons me_int ma_nil)))) (fun r M ds M' h => Nat.le_trans ((ln_cons (ln_cons (ln_cons (ln_cons ln_nil)))) r M ds M' h) (by decide))) ma_nil)))) (fun r M ds M' h => Nat.le_trans ((ln_cons (ln_cons (ln_cons (ln_cons ln_nil)))) r M ds M' h) (by decide))) ma_nil) (fun r M ds M' h => Nat.le_trans ((ln_cons ln_nil) r M ds M' h) (by decide))) (ma_cons me_bl ma_nil))) (fun r M ds M' h => Nat.le_trans ((ln_cons (ln_cons (ln_cons ln_nil))) r M ds M' h) (by decide))) ma_nil)))) (fun r M ds M' h => Nat.le_trans ((ln_cons (ln_cons (ln_cons (ln_cons ln_nil)))) r M ds M' h) (by decide)))) (mg_name (i := 13) nd rfl (Or.inl rfl)))
    (mss_cons (ms_if (mp_cmp (op_neA hr.units) s_ne (me_lc (own := [("_law_named_here", 3), ("_law_value", 9), ("_law_due", 14)]) (fun _ _ _ h => mt_lcL h) rfl nd (pi_list (me_var (i := 13))) (blkOk_by (N := n_Law) (sc := defScope s_Law) (by decide +kernel)) (fun _ _ _ _ _ => mw_tup rfl (mws_cons (mw_name (i := 3) (by decide) nd rfl (Or.inl rfl)) (mws_cons (mw_name (i := 9) (by decide) nd rfl (Or.inl rfl)) (mws_cons (mw_name (i := 14) (by decide) nd rfl (Or.inl rfl)) mws_nil)))) (fun _ _ _ _ _ => (mts_one (mp_cmp (op_neA hr.units) s_ne (me_call C.p_is_script hr (by rfl) T.g_p_is_script T.F_p_is_script.kp T.b_p_is_script pass0 (ma_cons (me_var (i := 3)) (ma_cons (me_var (i := 9)) ma_nil)) (ll_cons (ll_cons ll_nil))) (me_var (i := 14)) (nomark _)))) (fun _ _ _ _ _ => me_int)) (me_lst ma_nil (fun r M ds M' h => Nat.le_trans (ln_nil r M ds M' h) (by decide))) (nomark _)) (mss_one (ms_ret me_bl)) mss_nil)
    (mss_one (ms_ret (me_and (me_cmp (op_eqA hr.units) s_eq (me_call C.p_depth_of hr (by rfl) T.g_p_depth_of T.F_p_depth_of.kp T.b_p_depth_of pass0 (ma_cons me_int (ma_cons (me_var (i := 7)) ma_nil)) (ll_cons (ll_cons ll_nil))) me_int (nomark _)) (me_and (me_cmp (op_eqA hr.units) s_eq (me_call C.p_count_deeds hr (by rfl) T.g_p_count_deeds T.F_p_count_deeds.kp T.b_p_count_deeds pass0 (ma_cons me_int (ma_cons (me_var (i := 7)) ma_nil)) (ll_cons (ll_cons ll_nil))) (me_tup (ma_cons me_int (ma_cons me_int ma_nil)) (fun r M ds M' h => Nat.le_trans ((ln_cons (ln_cons ln_nil)) r M ds M' h) (by decide))) (nomark _)) (me_and (me_cmp (op_eqA hr.units) s_eq (me_call C.p_depth_of hr (by rfl) T.g_p_depth_of T.F_p_depth_of.kp T.b_p_depth_of pass0 (ma_cons me_int (ma_cons (me_tup ma_nil (fun r M ds M' h => Nat.le_trans (ln_nil r M ds M' h) (by decide))) ma_nil)) (ll_cons (ll_cons ll_nil))) me_int (nomark _)) (me_one (me_cmp (op_eqA hr.units) s_eq (me_call C.p_count_deeds hr (by rfl) T.g_p_count_deeds T.F_p_count_deeds.kp T.b_p_count_deeds pass0 (ma_cons me_int (ma_cons (me_tup (ma_cons (me_var (i := 12)) (ma_cons (me_var (i := 11)) (ma_cons (me_var (i := 12)) ma_nil))) (fun r M ds M' h => Nat.le_trans ((ln_cons (ln_cons (ln_cons ln_nil))) r M ds M' h) (by decide))) ma_nil)) (ll_cons (ll_cons ll_nil))) (me_tup (ma_cons me_int (ma_cons me_int ma_nil)) (fun r M ds M' h => Nat.le_trans ((ln_cons (ln_cons ln_nil)) r M ds M' h) (by decide))) (nomark _))))))))))))))))))
theorem law_ok (T : Tx K mg) (k : Nat) : FnOk P w K mg base CX0 (k + 2) T.a_Law T.d_Law ["_law_script_here"] (spM K 1 (gLaw (k + 1))) :=
  ok_Law T ⟨all_ok T (k + 1), ok_Lcup T k⟩
end
end MT

namespace MT
open PySem PySem.Spec PyProof.Rows L2 ML
theorem all_mk {l : PySem.W.OpenLaw} {w : World} {K : PySem.W.Frag} {h : Heap} {mg : Str → Option Value} {fa : Addr} (X : K.In h) (G : h.Ns mainGlobals mg) (hfa : mg "law" = some (.ref fa))
    {f0 : Addr} {od0 an0 : Option Addr} {sl0 : Array (Option Value)} {oc0 kV0 dc0 pm0 cd0 ct0 : Value}
    {f1 : Addr} {od1 an1 : Option Addr} {sl1 : Array (Option Value)} {oc1 kV1 dc1 pm1 cd1 ct1 : Value}
    {f2 : Addr} {od2 an2 : Option Addr} {sl2 : Array (Option Value)} {oc2 kV2 dc2 pm2 cd2 ct2 : Value}
    {f3 : Addr} {od3 an3 : Option Addr} {sl3 : Array (Option Value)} {oc3 kV3 dc3 pm3 cd3 ct3 : Value}
    {f4 : Addr} {od4 an4 : Option Addr} {sl4 : Array (Option Value)} {oc4 kV4 dc4 pm4 cd4 ct4 : Value}
    {f5 : Addr} {od5 an5 : Option Addr} {sl5 : Array (Option Value)} {oc5 kV5 dc5 pm5 cd5 ct5 : Value}
    {f6 : Addr} {od6 an6 : Option Addr} {sl6 : Array (Option Value)} {oc6 kV6 dc6 pm6 cd6 ct6 : Value}
    {f7 : Addr} {od7 an7 : Option Addr} {sl7 : Array (Option Value)} {oc7 kV7 dc7 pm7 cd7 ct7 : Value}
    {f8 : Addr} {od8 an8 : Option Addr} {sl8 : Array (Option Value)} {oc8 kV8 dc8 pm8 cd8 ct8 : Value}
    {f9 : Addr} {od9 an9 : Option Addr} {sl9 : Array (Option Value)} {oc9 kV9 dc9 pm9 cd9 ct9 : Value}
    {f10 : Addr} {od10 an10 : Option Addr} {sl10 : Array (Option Value)} {oc10 kV10 dc10 pm10 cd10 ct10 : Value}
    {f11 : Addr} {od11 an11 : Option Addr} {sl11 : Array (Option Value)} {oc11 kV11 dc11 pm11 cd11 ct11 : Value}
    {f12 : Addr} {od12 an12 : Option Addr} {sl12 : Array (Option Value)} {oc12 kV12 dc12 pm12 cd12 ct12 : Value}
    {f13 : Addr} {od13 an13 : Option Addr} {sl13 : Array (Option Value)} {oc13 kV13 dc13 pm13 cd13 ct13 : Value}
    {f14 : Addr} {od14 an14 : Option Addr} {sl14 : Array (Option Value)} {oc14 kV14 dc14 pm14 cd14 ct14 : Value}
    {f15 : Addr} {od15 an15 : Option Addr} {sl15 : Array (Option Value)} {oc15 kV15 dc15 pm15 cd15 ct15 : Value}
    {f16 : Addr} {od16 an16 : Option Addr} {sl16 : Array (Option Value)} {oc16 kV16 dc16 pm16 cd16 ct16 : Value}
    {f17 : Addr} {od17 an17 : Option Addr} {sl17 : Array (Option Value)} {oc17 kV17 dc17 pm17 cd17 ct17 : Value}
    {f18 : Addr} {od18 an18 : Option Addr} {sl18 : Array (Option Value)} {oc18 kV18 dc18 pm18 cd18 ct18 : Value}
    {f19 : Addr} {od19 an19 : Option Addr} {sl19 : Array (Option Value)} {oc19 kV19 dc19 pm19 cd19 ct19 : Value}
    {f20 : Addr} {od20 an20 : Option Addr} {sl20 : Array (Option Value)} {oc20 kV20 dc20 pm20 cd20 ct20 : Value}
    {f21 : Addr} {od21 an21 : Option Addr} {sl21 : Array (Option Value)} {oc21 kV21 dc21 pm21 cd21 ct21 : Value}
    {f22 : Addr} {od22 an22 : Option Addr} {sl22 : Array (Option Value)} {oc22 kV22 dc22 pm22 cd22 ct22 : Value}
    {f23 : Addr} {od23 an23 : Option Addr} {sl23 : Array (Option Value)} {oc23 kV23 dc23 pm23 cd23 ct23 : Value}
    {f24 : Addr} {od24 an24 : Option Addr} {sl24 : Array (Option Value)} {oc24 kV24 dc24 pm24 cd24 ct24 : Value}
    {f25 : Addr} {od25 an25 : Option Addr} {sl25 : Array (Option Value)} {oc25 kV25 dc25 pm25 cd25 ct25 : Value}
    {f26 : Addr} {od26 an26 : Option Addr} {sl26 : Array (Option Value)} {oc26 kV26 dc26 pm26 cd26 ct26 : Value}
    {f27 : Addr} {od27 an27 : Option Addr} {sl27 : Array (Option Value)} {oc27 kV27 dc27 pm27 cd27 ct27 : Value}
    {f28 : Addr} {od28 an28 : Option Addr} {sl28 : Array (Option Value)} {oc28 kV28 dc28 pm28 cd28 ct28 : Value}
    {f29 : Addr} {od29 an29 : Option Addr} {sl29 : Array (Option Value)} {oc29 kV29 dc29 pm29 cd29 ct29 : Value}
    {f30 : Addr} {od30 an30 : Option Addr} {sl30 : Array (Option Value)} {oc30 kV30 dc30 pm30 cd30 ct30 : Value}
    {f31 : Addr} {od31 an31 : Option Addr} {sl31 : Array (Option Value)} {oc31 kV31 dc31 pm31 cd31 ct31 : Value}
    {f32 : Addr} {od32 an32 : Option Addr} {sl32 : Array (Option Value)} {oc32 kV32 dc32 pm32 cd32 ct32 : Value}
    {t_MOST_DEPTH : Tok}
    {t_MOST_ITEMS : Tok}
    {t_MOST_NAMED : Tok}
    {a_WORDS : Addr} {od_WORDS : Option Addr} {n_WORDS : Nat} {sl_WORDS : Array (Option Value)} {t0_WORDS : Tok} {t1_WORDS : Tok} {t2_WORDS : Tok}
    (a0 : PySem.W.nsIn K mainGlobals "is_integer" = some (some (.ref f0))) (l0 : K.lookup f0 = some ⟨oc0, od0, .func (PySem.W.fnOf "is_integer" "is_integer" (defArgs s_p_is_integer) (defBody s_p_is_integer) (defScope s_p_is_integer) .none kV0 dc0 pm0 an0 cd0 ct0), sl0⟩) (c0 : PySem.W.codeIn K cd0 "is_integer" = true) (k0 : PySem.W.keepIn K (.ref f0) = true)
    (a1 : PySem.W.nsIn K mainGlobals "is_between" = some (some (.ref f1))) (l1 : K.lookup f1 = some ⟨oc1, od1, .func (PySem.W.fnOf "is_between" "is_between" (defArgs s_p_is_between) (defBody s_p_is_between) (defScope s_p_is_between) .none kV1 dc1 pm1 an1 cd1 ct1), sl1⟩) (c1 : PySem.W.codeIn K cd1 "is_between" = true) (k1 : PySem.W.keepIn K (.ref f1) = true)
    (a2 : PySem.W.nsIn K mainGlobals "is_tuple_of" = some (some (.ref f2))) (l2 : K.lookup f2 = some ⟨oc2, od2, .func (PySem.W.fnOf "is_tuple_of" "is_tuple_of" (defArgs s_p_is_tuple_of) (defBody s_p_is_tuple_of) (defScope s_p_is_tuple_of) .none kV2 dc2 pm2 an2 cd2 ct2), sl2⟩) (c2 : PySem.W.codeIn K cd2 "is_tuple_of" = true) (k2 : PySem.W.keepIn K (.ref f2) = true)
    (a3 : PySem.W.nsIn K mainGlobals "are_answers" = some (some (.ref f3))) (l3 : K.lookup f3 = some ⟨oc3, od3, .func (PySem.W.fnOf "are_answers" "are_answers" (defArgs s_p_are_answers) (defBody s_p_are_answers) (defScope s_p_are_answers) .none kV3 dc3 pm3 an3 cd3 ct3), sl3⟩) (c3 : PySem.W.codeIn K cd3 "are_answers" = true) (k3 : PySem.W.keepIn K (.ref f3) = true)
    (a4 : PySem.W.nsIn K mainGlobals "are_two_named" = some (some (.ref f4))) (l4 : K.lookup f4 = some ⟨oc4, od4, .func (PySem.W.fnOf "are_two_named" "are_two_named" (defArgs s_p_are_two_named) (defBody s_p_are_two_named) (defScope s_p_are_two_named) .none kV4 dc4 pm4 an4 cd4 ct4), sl4⟩) (c4 : PySem.W.codeIn K cd4 "are_two_named" = true) (k4 : PySem.W.keepIn K (.ref f4) = true)
    (a5 : PySem.W.nsIn K mainGlobals "is_deed_of" = some (some (.ref f5))) (l5 : K.lookup f5 = some ⟨oc5, od5, .func (PySem.W.fnOf "is_deed_of" "is_deed_of" (defArgs s_p_is_deed_of) (defBody s_p_is_deed_of) (defScope s_p_is_deed_of) .none kV5 dc5 pm5 an5 cd5 ct5), sl5⟩) (c5 : PySem.W.codeIn K cd5 "is_deed_of" = true) (k5 : PySem.W.keepIn K (.ref f5) = true)
    (a6 : PySem.W.nsIn K mainGlobals "is_asking" = some (some (.ref f6))) (l6 : K.lookup f6 = some ⟨oc6, od6, .func (PySem.W.fnOf "is_asking" "is_asking" (defArgs s_p_is_asking) (defBody s_p_is_asking) (defScope s_p_is_asking) .none kV6 dc6 pm6 an6 cd6 ct6), sl6⟩) (c6 : PySem.W.codeIn K cd6 "is_asking" = true) (k6 : PySem.W.keepIn K (.ref f6) = true)
    (a7 : PySem.W.nsIn K mainGlobals "left_behind" = some (some (.ref f7))) (l7 : K.lookup f7 = some ⟨oc7, od7, .func (PySem.W.fnOf "left_behind" "left_behind" (defArgs s_p_left_behind) (defBody s_p_left_behind) (defScope s_p_left_behind) .none kV7 dc7 pm7 an7 cd7 ct7), sl7⟩) (c7 : PySem.W.codeIn K cd7 "left_behind" = true) (k7 : PySem.W.keepIn K (.ref f7) = true)
    (a8 : PySem.W.nsIn K mainGlobals "left_behind_item" = some (some (.ref f8))) (l8 : K.lookup f8 = some ⟨oc8, od8, .func (PySem.W.fnOf "left_behind_item" "left_behind_item" (defArgs s_p_left_behind_item) (defBody s_p_left_behind_item) (defScope s_p_left_behind_item) .none kV8 dc8 pm8 an8 cd8 ct8), sl8⟩) (c8 : PySem.W.codeIn K cd8 "left_behind_item" = true) (k8 : PySem.W.keepIn K (.ref f8) = true)
    (a9 : PySem.W.nsIn K mainGlobals "is_script_of" = some (some (.ref f9))) (l9 : K.lookup f9 = some ⟨oc9, od9, .func (PySem.W.fnOf "is_script_of" "is_script_of" (defArgs s_p_is_script_of) (defBody s_p_is_script_of) (defScope s_p_is_script_of) .none kV9 dc9 pm9 an9 cd9 ct9), sl9⟩) (c9 : PySem.W.codeIn K cd9 "is_script_of" = true) (k9 : PySem.W.keepIn K (.ref f9) = true)
    (a10 : PySem.W.nsIn K mainGlobals "check_named" = some (some (.ref f10))) (l10 : K.lookup f10 = some ⟨oc10, od10, .func (PySem.W.fnOf "check_named" "check_named" (defArgs s_p_check_named) (defBody s_p_check_named) (defScope s_p_check_named) .none kV10 dc10 pm10 an10 cd10 ct10), sl10⟩) (c10 : PySem.W.codeIn K cd10 "check_named" = true) (k10 : PySem.W.keepIn K (.ref f10) = true)
    (a11 : PySem.W.nsIn K mainGlobals "check_script" = some (some (.ref f11))) (l11 : K.lookup f11 = some ⟨oc11, od11, .func (PySem.W.fnOf "check_script" "check_script" (defArgs s_p_check_script) (defBody s_p_check_script) (defScope s_p_check_script) .none kV11 dc11 pm11 an11 cd11 ct11), sl11⟩) (c11 : PySem.W.codeIn K cd11 "check_script" = true) (k11 : PySem.W.keepIn K (.ref f11) = true)
    (a12 : PySem.W.nsIn K mainGlobals "is_script" = some (some (.ref f12))) (l12 : K.lookup f12 = some ⟨oc12, od12, .func (PySem.W.fnOf "is_script" "is_script" (defArgs s_p_is_script) (defBody s_p_is_script) (defScope s_p_is_script) .none kV12 dc12 pm12 an12 cd12 ct12), sl12⟩) (c12 : PySem.W.codeIn K cd12 "is_script" = true) (k12 : PySem.W.keepIn K (.ref f12) = true)
    (a13 : PySem.W.nsIn K mainGlobals "count_deeds" = some (some (.ref f13))) (l13 : K.lookup f13 = some ⟨oc13, od13, .func (PySem.W.fnOf "count_deeds" "count_deeds" (defArgs s_p_count_deeds) (defBody s_p_count_deeds) (defScope s_p_count_deeds) .none kV13 dc13 pm13 an13 cd13 ct13), sl13⟩) (c13 : PySem.W.codeIn K cd13 "count_deeds" = true) (k13 : PySem.W.keepIn K (.ref f13) = true)
    (a14 : PySem.W.nsIn K mainGlobals "counted" = some (some (.ref f14))) (l14 : K.lookup f14 = some ⟨oc14, od14, .func (PySem.W.fnOf "counted" "counted" (defArgs s_p_counted) (defBody s_p_counted) (defScope s_p_counted) .none kV14 dc14 pm14 an14 cd14 ct14), sl14⟩) (c14 : PySem.W.codeIn K cd14 "counted" = true) (k14 : PySem.W.keepIn K (.ref f14) = true)
    (a15 : PySem.W.nsIn K mainGlobals "depth_of" = some (some (.ref f15))) (l15 : K.lookup f15 = some ⟨oc15, od15, .func (PySem.W.fnOf "depth_of" "depth_of" (defArgs s_p_depth_of) (defBody s_p_depth_of) (defScope s_p_depth_of) .none kV15 dc15 pm15 an15 cd15 ct15), sl15⟩) (c15 : PySem.W.codeIn K cd15 "depth_of" = true) (k15 : PySem.W.keepIn K (.ref f15) = true)
    (a16 : PySem.W.nsIn K mainGlobals "deepest" = some (some (.ref f16))) (l16 : K.lookup f16 = some ⟨oc16, od16, .func (PySem.W.fnOf "deepest" "deepest" (defArgs s_p_deepest) (defBody s_p_deepest) (defScope s_p_deepest) .none kV16 dc16 pm16 an16 cd16 ct16), sl16⟩) (c16 : PySem.W.codeIn K cd16 "deepest" = true) (k16 : PySem.W.keepIn K (.ref f16) = true)
    (a17 : PySem.W.nsIn K mainGlobals "_law_cup" = some (some (.ref f17))) (l17 : K.lookup f17 = some ⟨oc17, od17, .func (PySem.W.fnOf "_law_cup" "_law_cup" (defArgs s_Lcup) (defBody s_Lcup) (defScope s_Lcup) .none kV17 dc17 pm17 an17 cd17 ct17), sl17⟩) (c17 : PySem.W.codeIn K cd17 "_law_cup" = true) (k17 : PySem.W.keepIn K (.ref f17) = true)
    (a18 : PySem.W.nsIn K mainGlobals "_law_roll" = some (some (.ref f18))) (l18 : K.lookup f18 = some ⟨oc18, od18, .func (PySem.W.fnOf "_law_roll" "_law_roll" (defArgs s_Lroll) (defBody s_Lroll) (defScope s_Lroll) .none kV18 dc18 pm18 an18 cd18 ct18), sl18⟩) (c18 : PySem.W.codeIn K cd18 "_law_roll" = true) (k18 : PySem.W.keepIn K (.ref f18) = true)
    (a19 : PySem.W.nsIn K mainGlobals "_law_some" = some (some (.ref f19))) (l19 : K.lookup f19 = some ⟨oc19, od19, .func (PySem.W.fnOf "_law_some" "_law_some" (defArgs s_Lsome) (defBody s_Lsome) (defScope s_Lsome) .none kV19 dc19 pm19 an19 cd19 ct19), sl19⟩) (c19 : PySem.W.codeIn K cd19 "_law_some" = true) (k19 : PySem.W.keepIn K (.ref f19) = true)
    (a20 : PySem.W.nsIn K mainGlobals "_law_are_whole" = some (some (.ref f20))) (l20 : K.lookup f20 = some ⟨oc20, od20, .func (PySem.W.fnOf "_law_are_whole" "_law_are_whole" (defArgs s_Lare_whole) (defBody s_Lare_whole) (defScope s_Lare_whole) .none kV20 dc20 pm20 an20 cd20 ct20), sl20⟩) (c20 : PySem.W.codeIn K cd20 "_law_are_whole" = true) (k20 : PySem.W.keepIn K (.ref f20) = true)
    (a21 : PySem.W.nsIn K mainGlobals "_law_named" = some (some (.ref f21))) (l21 : K.lookup f21 = some ⟨oc21, od21, .func (PySem.W.fnOf "_law_named" "_law_named" (defArgs s_Lnamed) (defBody s_Lnamed) (defScope s_Lnamed) .none kV21 dc21 pm21 an21 cd21 ct21), sl21⟩) (c21 : PySem.W.codeIn K cd21 "_law_named" = true) (k21 : PySem.W.keepIn K (.ref f21) = true)
    (a22 : PySem.W.nsIn K mainGlobals "_law_answers" = some (some (.ref f22))) (l22 : K.lookup f22 = some ⟨oc22, od22, .func (PySem.W.fnOf "_law_answers" "_law_answers" (defArgs s_Lanswers) (defBody s_Lanswers) (defScope s_Lanswers) .none kV22 dc22 pm22 an22 cd22 ct22), sl22⟩) (c22 : PySem.W.codeIn K cd22 "_law_answers" = true) (k22 : PySem.W.keepIn K (.ref f22) = true)
    (a23 : PySem.W.nsIn K mainGlobals "_law_deed" = some (some (.ref f23))) (l23 : K.lookup f23 = some ⟨oc23, od23, .func (PySem.W.fnOf "_law_deed" "_law_deed" (defArgs s_Ldeed) (defBody s_Ldeed) (defScope s_Ldeed) .none kV23 dc23 pm23 an23 cd23 ct23), sl23⟩) (c23 : PySem.W.codeIn K cd23 "_law_deed" = true) (k23 : PySem.W.keepIn K (.ref f23) = true)
    (a24 : PySem.W.nsIn K mainGlobals "_law_items" = some (some (.ref f24))) (l24 : K.lookup f24 = some ⟨oc24, od24, .func (PySem.W.fnOf "_law_items" "_law_items" (defArgs s_Litems) (defBody s_Litems) (defScope s_Litems) .none kV24 dc24 pm24 an24 cd24 ct24), sl24⟩) (c24 : PySem.W.codeIn K cd24 "_law_items" = true) (k24 : PySem.W.keepIn K (.ref f24) = true)
    (a25 : PySem.W.nsIn K mainGlobals "_law_count" = some (some (.ref f25))) (l25 : K.lookup f25 = some ⟨oc25, od25, .func (PySem.W.fnOf "_law_count" "_law_count" (defArgs s_Lcount) (defBody s_Lcount) (defScope s_Lcount) .none kV25 dc25 pm25 an25 cd25 ct25), sl25⟩) (c25 : PySem.W.codeIn K cd25 "_law_count" = true) (k25 : PySem.W.keepIn K (.ref f25) = true)
    (a26 : PySem.W.nsIn K mainGlobals "_law_script" = some (some (.ref f26))) (l26 : K.lookup f26 = some ⟨oc26, od26, .func (PySem.W.fnOf "_law_script" "_law_script" (defArgs s_Lscript) (defBody s_Lscript) (defScope s_Lscript) .none kV26 dc26 pm26 an26 cd26 ct26), sl26⟩) (c26 : PySem.W.codeIn K cd26 "_law_script" = true) (k26 : PySem.W.keepIn K (.ref f26) = true)
    (a27 : PySem.W.nsIn K mainGlobals "_law_is_two" = some (some (.ref f27))) (l27 : K.lookup f27 = some ⟨oc27, od27, .func (PySem.W.fnOf "_law_is_two" "_law_is_two" (defArgs s_Lis_two) (defBody s_Lis_two) (defScope s_Lis_two) .none kV27 dc27 pm27 an27 cd27 ct27), sl27⟩) (c27 : PySem.W.codeIn K cd27 "_law_is_two" = true) (k27 : PySem.W.keepIn K (.ref f27) = true)
    (a28 : PySem.W.nsIn K mainGlobals "_law_is_deed" = some (some (.ref f28))) (l28 : K.lookup f28 = some ⟨oc28, od28, .func (PySem.W.fnOf "_law_is_deed" "_law_is_deed" (defArgs s_Lis_deed) (defBody s_Lis_deed) (defScope s_Lis_deed) .none kV28 dc28 pm28 an28 cd28 ct28), sl28⟩) (c28 : PySem.W.codeIn K cd28 "_law_is_deed" = true) (k28 : PySem.W.keepIn K (.ref f28) = true)
    (a29 : PySem.W.nsIn K mainGlobals "_law_measured" = some (some (.ref f29))) (l29 : K.lookup f29 = some ⟨oc29, od29, .func (PySem.W.fnOf "_law_measured" "_law_measured" (defArgs s_Lmeasured) (defBody s_Lmeasured) (defScope s_Lmeasured) .none kV29 dc29 pm29 an29 cd29 ct29), sl29⟩) (c29 : PySem.W.codeIn K cd29 "_law_measured" = true) (k29 : PySem.W.keepIn K (.ref f29) = true)
    (a30 : PySem.W.nsIn K mainGlobals "_law_judged" = some (some (.ref f30))) (l30 : K.lookup f30 = some ⟨oc30, od30, .func (PySem.W.fnOf "_law_judged" "_law_judged" (defArgs s_Ljudged) (defBody s_Ljudged) (defScope s_Ljudged) .none kV30 dc30 pm30 an30 cd30 ct30), sl30⟩) (c30 : PySem.W.codeIn K cd30 "_law_judged" = true) (k30 : PySem.W.keepIn K (.ref f30) = true)
    (a31 : PySem.W.nsIn K mainGlobals "_law_bent" = some (some (.ref f31))) (l31 : K.lookup f31 = some ⟨oc31, od31, .func (PySem.W.fnOf "_law_bent" "_law_bent" (defArgs s_Lbent) (defBody s_Lbent) (defScope s_Lbent) .none kV31 dc31 pm31 an31 cd31 ct31), sl31⟩) (c31 : PySem.W.codeIn K cd31 "_law_bent" = true) (k31 : PySem.W.keepIn K (.ref f31) = true)
    (a32 : PySem.W.nsIn K mainGlobals "law" = some (some (.ref f32))) (l32 : K.lookup f32 = some ⟨oc32, od32, .func (PySem.W.fnOf "law" "law" (defArgs s_Law) (defBody s_Law) (defScope s_Law) .none kV32 dc32 pm32 an32 cd32 ct32), sl32⟩) (c32 : PySem.W.codeIn K cd32 "law" = true) (k32 : PySem.W.keepIn K (.ref f32) = true)
    (z_abs : PySem.W.nsIn K mainGlobals "abs" = some none)
    (z_all : PySem.W.nsIn K mainGlobals "all" = some none)
    (z_bool : PySem.W.nsIn K mainGlobals "bool" = some none)
    (z_int : PySem.W.nsIn K mainGlobals "int" = some none)
    (z_isinstance : PySem.W.nsIn K mainGlobals "isinstance" = some none)
    (z_len : PySem.W.nsIn K mainGlobals "len" = some none)
    (z_list : PySem.W.nsIn K mainGlobals "list" = some none)
    (z_max : PySem.W.nsIn K mainGlobals "max" = some none)
    (z_range : PySem.W.nsIn K mainGlobals "range" = some none)
    (z_str : PySem.W.nsIn K mainGlobals "str" = some none)
    (z_tuple : PySem.W.nsIn K mainGlobals "tuple" = some none)
    (m_MOST_DEPTH : PySem.W.nsIn K mainGlobals "MOST_DEPTH" = some (some (.int 4 t_MOST_DEPTH)))
    (m_MOST_ITEMS : PySem.W.nsIn K mainGlobals "MOST_ITEMS" = some (some (.int 30 t_MOST_ITEMS)))
    (m_MOST_NAMED : PySem.W.nsIn K mainGlobals "MOST_NAMED" = some (some (.int 3 t_MOST_NAMED)))
    (m_WORDS : PySem.W.nsIn K mainGlobals "WORDS" = some (some (.ref a_WORDS)))
    (l_WORDS : K.lookup a_WORDS = some ⟨.type "tuple", od_WORDS, .seq #[.str "know" t0_WORDS, .str "part" t1_WORDS, .str "turn" t2_WORDS] n_WORDS, sl_WORDS⟩) :
    ∃ fd : FuncData, (∀ (s : Shared) (v : Value), BindsTo s fd ⟨[v], []⟩ [("_law_script_here", v)]) ∧ ∀ base : Heap, K.In base → base.Ns mainGlobals mg → FnOk l.prog w K mg base CX0 42 fa fd ["_law_script_here"] (spM K 1 (gLaw 41)) := by
  have e := hfa.symm.trans (PySem.W.mg_of X G a32)
  cases e
  have F0 := fun_mk (st := s_p_is_integer) l0 c0 k0
  have F1 := fun_mk (st := s_p_is_between) l1 c1 k1
  have F2 := fun_mk (st := s_p_is_tuple_of) l2 c2 k2
  have F3 := fun_mk (st := s_p_are_answers) l3 c3 k3
  have F4 := fun_mk (st := s_p_are_two_named) l4 c4 k4
  have F5 := fun_mk (st := s_p_is_deed_of) l5 c5 k5
  have F6 := fun_mk (st := s_p_is_asking) l6 c6 k6
  have F7 := fun_mk (st := s_p_left_behind) l7 c7 k7
  have F8 := fun_mk (st := s_p_left_behind_item) l8 c8 k8
  have F9 := fun_mk (st := s_p_is_script_of) l9 c9 k9
  have F10 := fun_mk (st := s_p_check_named) l10 c10 k10
  have F11 := fun_mk (st := s_p_check_script) l11 c11 k11
  have F12 := fun_mk (st := s_p_is_script) l12 c12 k12
  have F13 := fun_mk (st := s_p_count_deeds) l13 c13 k13
  have F14 := fun_mk (st := s_p_counted) l14 c14 k14
  have F15 := fun_mk (st := s_p_depth_of) l15 c15 k15
  have F16 := fun_mk (st := s_p_deepest) l16 c16 k16
  have F17 := fun_mk (st := s_Lcup) l17 c17 k17
  have F18 := fun_mk (st := s_Lroll) l18 c18 k18
  have F19 := fun_mk (st := s_Lsome) l19 c19 k19
  have F20 := fun_mk (st := s_Lare_whole) l20 c20 k20
  have F21 := fun_mk (st := s_Lnamed) l21 c21 k21
  have F22 := fun_mk (st := s_Lanswers) l22 c22 k22
  have F23 := fun_mk (st := s_Ldeed) l23 c23 k23
  have F24 := fun_mk (st := s_Litems) l24 c24 k24
  have F25 := fun_mk (st := s_Lcount) l25 c25 k25
  have F26 := fun_mk (st := s_Lscript) l26 c26 k26
  have F27 := fun_mk (st := s_Lis_two) l27 c27 k27
  have F28 := fun_mk (st := s_Lis_deed) l28 c28 k28
  have F29 := fun_mk (st := s_Lmeasured) l29 c29 k29
  have F30 := fun_mk (st := s_Ljudged) l30 c30 k30
  have F31 := fun_mk (st := s_Lbent) l31 c31 k31
  have F32 := fun_mk (st := s_Law) l32 c32 k32
  let T : Tx K mg := {
    a_p_is_integer := f0,
    d_p_is_integer := _,
    F_p_is_integer := F0,
    g_p_is_integer := PySem.W.mg_of X G a0,
    b_p_is_integer := F0.binds (fun _ _ _ _ _ _ us hl => match us, hl with | [_], _ => rfl),
    a_p_is_between := f1,
    d_p_is_between := _,
    F_p_is_between := F1,
    g_p_is_between := PySem.W.mg_of X G a1,
    b_p_is_between := F1.binds (fun _ _ _ _ _ _ us hl => match us, hl with | [_, _, _], _ => rfl),
    a_p_is_tuple_of := f2,
    d_p_is_tuple_of := _,
    F_p_is_tuple_of := F2,
    g_p_is_tuple_of := PySem.W.mg_of X G a2,
    b_p_is_tuple_of := F2.binds (fun _ _ _ _ _ _ us hl => match us, hl with | [_, _], _ => rfl),
    a_p_are_answers := f3,
    d_p_are_answers := _,
    F_p_are_answers := F3,
    g_p_are_answers := PySem.W.mg_of X G a3,
    b_p_are_answers := F3.binds (fun _ _ _ _ _ _ us hl => match us, hl with | [_, _], _ => rfl),
    a_p_are_two_named := f4,
    d_p_are_two_named := _,
    F_p_are_two_named := F4,
    g_p_are_two_named := PySem.W.mg_of X G a4,
    b_p_are_two_named := F4.binds (fun _ _ _ _ _ _ us hl => match us, hl with | [_, _, _], _ => rfl),
    a_p_is_deed_of := f5,
    d_p_is_deed_of := _,
    F_p_is_deed_of := F5,
    g_p_is_deed_of := PySem.W.mg_of X G a5,
    b_p_is_deed_of := F5.binds (fun _ _ _ _ _ _ us hl => match us, hl with | [_, _], _ => rfl),
    a_p_is_asking := f6,
    d_p_is_asking := _,
    F_p_is_asking := F6,
    g_p_is_asking := PySem.W.mg_of X G a6,
    b_p_is_asking := F6.binds (fun _ _ _ _ _ _ us hl => match us, hl with | [_, _], _ => rfl),
    a_p_left_behind := f7,
    d_p_left_behind := _,
    F_p_left_behind := F7,
    g_p_left_behind := PySem.W.mg_of X G a7,
    b_p_left_behind := F7.binds (fun _ _ _ _ _ _ us hl => match us, hl with | [_, _, _, _], _ => rfl),
    a_p_left_behind_item := f8,
    d_p_left_behind_item := _,
    F_p_left_behind_item := F8,
    g_p_left_behind_item := PySem.W.mg_of X G a8,
    b_p_left_behind_item := F8.binds (fun _ _ _ _ _ _ us hl => match us, hl with | [_, _, _, _], _ => rfl),
    a_p_is_script_of := f9,
    d_p_is_script_of := _,
    F_p_is_script_of := F9,
    g_p_is_script_of := PySem.W.mg_of X G a9,
    b_p_is_script_of := F9.binds (fun _ _ _ _ _ _ us hl => match us, hl with | [_, _], _ => rfl),
    a_p_check_named := f10,
    d_p_check_named := _,
    F_p_check_named := F10,
    g_p_check_named := PySem.W.mg_of X G a10,
    b_p_check_named := F10.binds (fun _ _ _ _ _ _ us hl => match us, hl with | [_], _ => rfl),
    a_p_check_script := f11,
    d_p_check_script := _,
    F_p_check_script := F11,
    g_p_check_script := PySem.W.mg_of X G a11,
    b_p_check_script := F11.binds (fun _ _ _ _ _ _ us hl => match us, hl with | [_, _], _ => rfl),
    a_p_is_script := f12,
    d_p_is_script := _,
    F_p_is_script := F12,
    g_p_is_script := PySem.W.mg_of X G a12,
    b_p_is_script := F12.binds (fun _ _ _ _ _ _ us hl => match us, hl with | [_, _], _ => rfl),
    a_p_count_deeds := f13,
    d_p_count_deeds := _,
    F_p_count_deeds := F13,
    g_p_count_deeds := PySem.W.mg_of X G a13,
    b_p_count_deeds := F13.binds (fun _ _ _ _ _ _ us hl => match us, hl with | [_, _], _ => rfl),
    a_p_counted := f14,
    d_p_counted := _,
    F_p_counted := F14,
    g_p_counted := PySem.W.mg_of X G a14,
    b_p_counted := F14.binds (fun _ _ _ _ _ _ us hl => match us, hl with | [_], _ => rfl),
    a_p_depth_of := f15,
    d_p_depth_of := _,
    F_p_depth_of := F15,
    g_p_depth_of := PySem.W.mg_of X G a15,
    b_p_depth_of := F15.binds (fun _ _ _ _ _ _ us hl => match us, hl with | [_, _], _ => rfl),
    a_p_deepest := f16,
    d_p_deepest := _,
    F_p_deepest := F16,
    g_p_deepest := PySem.W.mg_of X G a16,
    b_p_deepest := F16.binds (fun _ _ _ _ _ _ us hl => match us, hl with | [_], _ => rfl),
    a_Lcup := f17,
    d_Lcup := _,
    F_Lcup := F17,
    g_Lcup := PySem.W.mg_of X G a17,
    b_Lcup := F17.binds (fun _ _ _ _ _ _ us hl => match us, hl with | [_], _ => rfl),
    a_Lroll := f18,
    d_Lroll := _,
    F_Lroll := F18,
    g_Lroll := PySem.W.mg_of X G a18,
    b_Lroll := F18.binds (fun _ _ _ _ _ _ us hl => match us, hl with | [_, _], _ => rfl),
    a_Lsome := f19,
    d_Lsome := _,
    F_Lsome := F19,
    g_Lsome := PySem.W.mg_of X G a19,
    b_Lsome := F19.binds (fun _ _ _ _ _ _ us hl => match us, hl with | [_, _], _ => rfl),
    a_Lare_whole := f20,
    d_Lare_whole := _,
    F_Lare_whole := F20,
    g_Lare_whole := PySem.W.mg_of X G a20,
    b_Lare_whole := F20.binds (fun _ _ _ _ _ _ us hl => match us, hl with | [_, _, _], _ => rfl),
    a_Lnamed := f21,
    d_Lnamed := _,
    F_Lnamed := F21,
    g_Lnamed := PySem.W.mg_of X G a21,
    b_Lnamed := F21.binds (fun _ _ _ _ _ _ us hl => match us, hl with | [_], _ => rfl),
    a_Lanswers := f22,
    d_Lanswers := _,
    F_Lanswers := F22,
    g_Lanswers := PySem.W.mg_of X G a22,
    b_Lanswers := F22.binds (fun _ _ _ _ _ _ us hl => match us, hl with | [_, _], _ => rfl),
    a_Ldeed := f23,
    d_Ldeed := _,
    F_Ldeed := F23,
    g_Ldeed := PySem.W.mg_of X G a23,
    b_Ldeed := F23.binds (fun _ _ _ _ _ _ us hl => match us, hl with | [_, _], _ => rfl),
    a_Litems := f24,
    d_Litems := _,
    F_Litems := F24,
    g_Litems := PySem.W.mg_of X G a24,
    b_Litems := F24.binds (fun _ _ _ _ _ _ us hl => match us, hl with | [_, _, _, _], _ => rfl),
    a_Lcount := f25,
    d_Lcount := _,
    F_Lcount := F25,
    g_Lcount := PySem.W.mg_of X G a25,
    b_Lcount := F25.binds (fun _ _ _ _ _ _ us hl => match us, hl with | [_], _ => rfl),
    a_Lscript := f26,
    d_Lscript := _,
    F_Lscript := F26,
    g_Lscript := PySem.W.mg_of X G a26,
    b_Lscript := F26.binds (fun _ _ _ _ _ _ us hl => match us, hl with | [_, _, _, _], _ => rfl),
    a_Lis_two := f27,
    d_Lis_two := _,
    F_Lis_two := F27,
    g_Lis_two := PySem.W.mg_of X G a27,
    b_Lis_two := F27.binds (fun _ _ _ _ _ _ us hl => match us, hl with | [_, _], _ => rfl),
    a_Lis_deed := f28,
    d_Lis_deed := _,
    F_Lis_deed := F28,
    g_Lis_deed := PySem.W.mg_of X G a28,
    b_Lis_deed := F28.binds (fun _ _ _ _ _ _ us hl => match us, hl with | [_, _], _ => rfl),
    a_Lmeasured := f29,
    d_Lmeasured := _,
    F_Lmeasured := F29,
    g_Lmeasured := PySem.W.mg_of X G a29,
    b_Lmeasured := F29.binds (fun _ _ _ _ _ _ us hl => match us, hl with | [_, _], _ => rfl),
    a_Ljudged := f30,
    d_Ljudged := _,
    F_Ljudged := F30,
    g_Ljudged := PySem.W.mg_of X G a30,
    b_Ljudged := F30.binds (fun _ _ _ _ _ _ us hl => match us, hl with | [_, _], _ => rfl),
    a_Lbent := f31,
    d_Lbent := _,
    F_Lbent := F31,
    g_Lbent := PySem.W.mg_of X G a31,
    b_Lbent := F31.binds (fun _ _ _ _ _ _ us hl => match us, hl with | [_, _], _ => rfl),
    a_Law := fa,
    d_Law := _,
    F_Law := F32,
    g_Law := PySem.W.mg_of X G a32,
    b_Law := F32.binds (fun _ _ _ _ _ _ us hl => match us, hl with | [_], _ => rfl),
    z_abs := PySem.W.mg_none_of X G z_abs,
    z_all := PySem.W.mg_none_of X G z_all,
    z_bool := PySem.W.mg_none_of X G z_bool,
    z_int := PySem.W.mg_none_of X G z_int,
    z_isinstance := PySem.W.mg_none_of X G z_isinstance,
    z_len := PySem.W.mg_none_of X G z_len,
    z_list := PySem.W.mg_none_of X G z_list,
    z_max := PySem.W.mg_none_of X G z_max,
    z_range := PySem.W.mg_none_of X G z_range,
    z_str := PySem.W.mg_none_of X G z_str,
    z_tuple := PySem.W.mg_none_of X G z_tuple,
    t_MOST_DEPTH := t_MOST_DEPTH,
    c_MOST_DEPTH := PySem.W.mg_of X G m_MOST_DEPTH,
    t_MOST_ITEMS := t_MOST_ITEMS,
    c_MOST_ITEMS := PySem.W.mg_of X G m_MOST_ITEMS,
    t_MOST_NAMED := t_MOST_NAMED,
    c_MOST_NAMED := PySem.W.mg_of X G m_MOST_NAMED,
    a_WORDS := a_WORDS,
    c_WORDS := PySem.W.mg_of X G m_WORDS,
    r_WORDS := fun H ms ex => .tup (xs := [V.str "know", V.str "part", V.str "turn"]) (.inr ⟨_, _, _, l_WORDS, rfl, rfl, (by show (3 : Nat) ≤ sizeLine; decide), (.cons ⟨_, rfl⟩ (.cons ⟨_, rfl⟩ (.cons ⟨_, rfl⟩ .nil)))⟩) (.cons (.str _) (.cons (.str _) (.cons (.str _) .nil))) }
  exact ⟨T.d_Law, fun s v => .of_eq rfl, fun base _ _ => law_ok T 40⟩
end MT

namespace MT
open PySem PySem.Spec PyProof.Rows L2 ML
def isI : D → Bool
  | .int _ => true
  | _ => false
def btw (d : D) (lo hi : Int) : Bool := match d with
  | .int i => decide (lo ≤ i) && decide (i ≤ hi)
  | _ => false
theorem g_is_integer (n : Nat) (d : D) (M : MM) : G (n + 1) .p_is_integer [d] M = some (.bl (isI d), M) := by
  cases d <;> rfl
theorem g_is_between (n : Nat) (d : D) (lo hi : Int) (M : MM) : G (n + 2) .p_is_between [d, .int lo, .int hi] M = some (.bl (btw d lo hi), M) := by
  show mFun 3 (B_p_is_between (G (n + 1))) [d, .int lo, .int hi] M = _
  cases d with
  | int i =>
    by_cases h1 : lo ≤ i <;> by_cases h2 : i ≤ hi <;> simp [mFun, mSeq, mRet, mDrop, mIfS, mNever, mSkip, mSet, mAsg, mPar2, mPar3, tgName, tgTup, tgCons, tgNil, mVar, mC, mNil, mCons, mTup, mLst, mOp, mUn, mB, mAnd, mOr, mNot, mIf, mChain, mFn, mCall, mIs, mFor, itemsT, itemsL, mYes, mPart, mNo, mSl, startD, oCmp, oI, oLt, oLe, oGt, oGe, oSub, oLen, oIx, isT, B_p_is_between, g_is_integer, isI, btw, h1, h2]
  | _ => rfl
def tupN (d : D) (k : Nat) : Bool := match d with
  | .tup xs => xs.length == k
  | _ => false
theorem g_is_tuple_of (n : Nat) (d : D) (k : Nat) (M : MM) : G (n + 1) .p_is_tuple_of [d, .int k] M = some (.bl (tupN d k), M) := by
  show mFun 2 (B_p_is_tuple_of (G n)) [d, .int k] M = _
  cases d with
  | tup xs =>
    simp [mFun, mSeq, mRet, mDrop, mIfS, mNever, mSkip, mSet, mAsg, mPar2, mPar3, tgName, tgTup, tgCons, tgNil, mVar, mC, mNil, mCons, mTup, mLst, mOp, mUn, mB, mAnd, mOr, mNot, mIf, mChain, mFn, mCall, mIs, mFor, itemsT, itemsL, mYes, mPart, mNo, mSl, startD, oCmp, oI, oLt, oLe, oGt, oGe, oSub, oLen, oIx, isT, B_p_is_tuple_of, oEq, tupN]
    rw [Bool.eq_iff_iff]
    simp
    omega
  | _ => rfl
end MT

namespace MT
open PySem PySem.Spec PyProof.Rows L2 ML
/-! ### data that is not too deep, nor too long -/
def good : Nat → D → Bool
  | _, .non => true
  | _, .bl _ => true
  | _, .int _ => true
  | _, .str x => PyData.canLay0 (.str x)
  | n + 1, .tup xs => decide (xs.length ≤ 1000) && xs.all (good n)
  | n + 1, .lst xs => decide (xs.length ≤ 1000) && xs.all (good n)
  | _, _ => false
theorem good_mono : ∀ {n m : Nat} {d : D}, good n d = true → n ≤ m → good m d = true
  | n, m, .non, _, _ => by cases m <;> rfl
  | n, m, .bl _, _, _ => by cases m <;> rfl
  | n, m, .int _, _, _ => by cases m <;> rfl
  | n, m, .str x, h, _ => by cases n <;> cases m <;> exact h
  | 0, m, .tup xs, h, _ => by cases h
  | n + 1, 0, .tup xs, h, hl => by omega
  | n + 1, m + 1, .tup xs, h, hl => by
    simp only [good, Bool.and_eq_true, List.all_eq_true] at h ⊢
    exact ⟨h.1, fun x hx => good_mono (h.2 x hx) (by omega)⟩
  | 0, m, .lst xs, h, _ => by cases h
  | n + 1, 0, .lst xs, h, hl => by omega
  | n + 1, m + 1, .lst xs, h, hl => by
    simp only [good, Bool.and_eq_true, List.all_eq_true] at h ⊢
    exact ⟨h.1, fun x hx => good_mono (h.2 x hx) (by omega)⟩
  | n, m, .mu _, h, _ => by cases n <;> cases h
  | n, m, .fz _, h, _ => by cases n <;> cases h
theorem pys_ok {n : Nat} : ∀ {xs : List D}, (∀ x ∈ xs, pure x = true ∧ (py x).canLay0 = true ∧ (py x).depth ≤ n) → pures xs = true ∧ PyData.canLayAll0 (pys xs) = true ∧ PyData.depthAll (pys xs) ≤ n
  | [], _ => ⟨rfl, by simp [pys, PyData.canLayAll0], by simp [pys, PyData.depthAll]⟩
  | x :: xs, h => by
    obtain ⟨a, b, c⟩ := h x List.mem_cons_self
    obtain ⟨d, e, f⟩ := pys_ok fun y hy => h y (List.mem_cons_of_mem _ hy)
    refine ⟨by simp [pures, a, d], by simp [pys, PyData.canLayAll0, b, e], ?_⟩
    simp only [pys, PyData.depthAll]
    omega
theorem good_ok : ∀ {n : Nat} {d : D}, good n d = true → pure d = true ∧ (py d).canLay0 = true ∧ (py d).depth ≤ n
  | n, .non, _ => ⟨rfl, by simp [py, PyData.canLay0], by simp [py, PyData.depth]⟩
  | n, .bl _, _ => ⟨rfl, by simp [py, PyData.canLay0], by simp [py, PyData.depth]⟩
  | n, .int _, _ => ⟨rfl, by simp [py, PyData.canLay0], by simp [py, PyData.depth]⟩
  | n, .str x, h => ⟨rfl, by cases n <;> exact h, by simp [py, PyData.depth]⟩
  | 0, .tup xs, h => by cases h
  | n + 1, .tup xs, h => by
    simp only [good, Bool.and_eq_true, List.all_eq_true] at h
    obtain ⟨a, b, c⟩ := pys_ok fun x hx => good_ok (h.2 x hx)
    exact ⟨a, by simpa [py, PyData.canLay0] using b, by simp only [py, PyData.depth]; omega⟩
  | 0, .lst xs, h => by cases h
  | n + 1, .lst xs, h => by
    simp only [good, Bool.and_eq_true, List.all_eq_true] at h
    obtain ⟨a, b, c⟩ := pys_ok fun x hx => good_ok (h.2 x hx)
    exact ⟨a, by simpa [py, PyData.canLay0] using b, by simp only [py, PyData.depth]; omega⟩
  | n, .mu _, h => by cases n <;> cases h
  | n, .fz _, h => by cases n <;> cases h
theorem okD_of {n : Nat} {d : D} (h : good n d = true) (hn : n ≤ 64) : okD d = true := by
  obtain ⟨a, b, c⟩ := good_ok h
  unfold okD SeqAt.shaped
  rw [a, b, decide_eq_true (by omega)]
  rfl
theorem good_tup {n : Nat} {xs : List D} (h : good n (.tup xs) = true) : ∃ k, n = k + 1 ∧ xs.length ≤ 1000 ∧ ∀ x ∈ xs, good k x = true := by
  cases n with
  | zero => cases h
  | succ k =>
    simp only [good, Bool.and_eq_true, List.all_eq_true, decide_eq_true_eq] at h
    exact ⟨k, rfl, h.1, h.2⟩
/-- it is the text s -/
def isS (s : Str) : D → Bool
  | .str x => x == s
  | _ => false
theorem oEq_str {d : D} {s : Str} {M : MM} (h : okD d = true) (hs : okD (.str s) = true) : oEq M d (.str s) = some (.bl (isS s d)) := by
  cases d with
  | str x => rfl
  | non => simp only [oEq, h, hs]; simp [oEqv, py, PyData.eqv, isS]
  | bl b => simp only [oEq, h, hs]; simp [oEqv, py, PyData.eqv, isS]
  | int b => simp only [oEq, h, hs]; simp [oEqv, py, PyData.eqv, isS]
  | tup b => simp only [oEq, h, hs]; simp [oEqv, py, PyData.eqv, isS]
  | lst b => simp only [oEq, h, hs]; simp [oEqv, py, PyData.eqv, isS]
  | mu b => cases h
  | fz b => simp only [oEq, h, hs]; simp [oEqv, py, PyData.eqv, isS]
theorem oNe_str {d : D} {s : Str} {M : MM} (h : okD d = true) (hs : okD (.str s) = true) : oNe M d (.str s) = some (.bl (!isS s d)) := by
  unfold oNe
  rw [oEq_str h hs]
/-! ### comprehensions whose parts change nothing -/
theorem lcD_filter {tg : FT} {t : FB} {e : FE} {r : En} {M : MM} (p : D → Bool) (f : D → D) : ∀ {xs : List D}, (∀ d ∈ xs, ∃ r1, tg d r = some r1 ∧ t r1 M = some (p d, M) ∧ (p d = true → e r1 M = some (f d, M))) → lcD tg t e r xs M = some ((xs.filter p).map f, M)
  | [], _ => rfl
  | x :: xs, h => by
    obtain ⟨r1, h1, h2, h3⟩ := h x List.mem_cons_self
    have ih := lcD_filter p f (xs := xs) fun d hd => h d (List.mem_cons_of_mem _ hd)
    unfold lcD
    rw [h1]
    simp only []
    rw [h2]
    cases hp : p x with
    | true =>
      simp only []
      rw [h3 hp]
      simp only []
      rw [ih]
      simp [List.filter_cons, hp]
    | false =>
      simp only []
      rw [ih]
      simp [List.filter_cons, hp]
theorem lcD_map {tg : FT} {e : FE} {r : En} {M : MM} (f : D → D) {xs : List D} (h : ∀ d ∈ xs, ∃ r1, tg d r = some r1 ∧ e r1 M = some (f d, M)) : lcD tg mYes e r xs M = some (xs.map f, M) := by
  rw [lcD_filter (fun _ => true) f fun d hd => by
    obtain ⟨r1, h1, h2⟩ := h d hd
    exact ⟨r1, h1, rfl, fun _ => h2⟩]
  rw [List.filter_eq_self.mpr fun _ _ => rfl]
theorem boolsOf_map (p : D → Bool) : ∀ xs : List D, boolsOf (xs.map fun d => .bl (p d)) = some (xs.map p)
  | [] => rfl
  | x :: xs => by
    show (match boolsOf (xs.map fun d => .bl (p d)) with | some bs => some (p x :: bs) | none => none) = _
    rw [boolsOf_map p xs]
    rfl
def answ (d : D) (k : Nat) : Bool := match d with
  | .tup xs => xs.length == k && xs.all fun x => btw x 0 1
  | _ => false
theorem g_are_answers (n : Nat) (d : D) (k : Nat) (M : MM) (hk : k ≤ 1000) : G (n + 3) .p_are_answers [d, .int k] M = some (.bl (answ d k), M) := by
  show mFun 3 (B_p_are_answers (G (n + 2))) [d, .int k] M = _
  have h1 := g_is_tuple_of (n + 1) d k M
  cases d with
  | tup xs =>
    by_cases hl : xs.length = k
    · subst hl
      have h2 : tupN (.tup xs) xs.length = true := by simp [tupN]
      have h3 : lcD (tgName 2) mYes (mCall (G (n + 2) Fid.p_is_between) (mCons (mVar 2) (mCons (mC (.int 0)) (mCons (mC (.int 1)) mNil)))) (wipeD [some (D.tup xs), some (.int xs.length), none] [2]) xs M = some (xs.map fun d => .bl (btw d 0 1), M) :=
        lcD_map _ fun d hd => ⟨_, rfl, g_is_between n d 0 1 M⟩
      simp [mFun, mSeq, mRet, mDrop, mIfS, mNever, mSkip, mSet, mAsg, mPar2, mPar3, tgName, tgTup, tgCons, tgNil, mVar, mC, mNil, mCons, mTup, mLst, mOp, mUn, mB, mAnd, mOr, mNot, mIf, mChain, mFn, mCall, mIs, mFor, itemsT, itemsL, mYes, mPart, mNo, mSl, startD, oCmp, oI, oLt, oLe, oGt, oGe, oSub, oLen, oIx, isT, B_p_are_answers, h1, h2, mLc, h3, hk, oAll, boolsOf_map, answ]
    · have h2 : tupN (.tup xs) k = false := by simp [tupN, hl]
      simp [mFun, mSeq, mRet, mDrop, mIfS, mNever, mSkip, mSet, mAsg, mPar2, mPar3, tgName, tgTup, tgCons, tgNil, mVar, mC, mNil, mCons, mTup, mLst, mOp, mUn, mB, mAnd, mOr, mNot, mIf, mChain, mFn, mCall, mIs, mFor, itemsT, itemsL, mYes, mPart, mNo, mSl, startD, oCmp, oI, oLt, oLe, oGt, oGe, oSub, oLen, oIx, isT, B_p_are_answers, h1, h2, answ, hl]
  | _ => simp [mFun, mSeq, mRet, mDrop, mIfS, mNever, mSkip, mSet, mAsg, mPar2, mPar3, tgName, tgTup, tgCons, tgNil, mVar, mC, mNil, mCons, mTup, mLst, mOp, mUn, mB, mAnd, mOr, mNot, mIf, mChain, mFn, mCall, mIs, mFor, itemsT, itemsL, mYes, mPart, mNo, mSl, startD, oCmp, oI, oLt, oLe, oGt, oGe, oSub, oLen, oIx, isT, B_p_are_answers, h1, tupN, answ]
def twoB (named : Int) (a b : D) : Bool := match a, b with
  | .int i, .int j => (decide (0 ≤ i) && decide (i ≤ named - 1)) && ((decide (0 ≤ j) && decide (j ≤ named - 1)) && !(i == j))
  | _, _ => false
theorem g_are_two_named (n : Nat) (named : Int) (a b : D) (M : MM) : G (n + 3) .p_are_two_named [.int named, a, b] M = some (.bl (twoB named a b), M) := by
  show mFun 3 (B_p_are_two_named (G (n + 2))) [.int named, a, b] M = _
  have h1 := g_is_between n a 0 (named - 1) M
  have h2 := g_is_between n b 0 (named - 1) M
  cases ha : btw a 0 (named - 1) with
  | false =>
    have : twoB named a b = false := by
      cases a <;> cases b <;> simp [twoB, btw] at ha ⊢
      intro q1 q2
      have := ha q1
      omega
    simp [mFun, mSeq, mRet, mDrop, mIfS, mNever, mSkip, mSet, mAsg, mPar2, mPar3, tgName, tgTup, tgCons, tgNil, mVar, mC, mNil, mCons, mTup, mLst, mOp, mUn, mB, mAnd, mOr, mNot, mIf, mChain, mFn, mCall, mIs, mFor, itemsT, itemsL, mYes, mPart, mNo, mSl, startD, oCmp, oI, oLt, oLe, oGt, oGe, oSub, oLen, oIx, isT, B_p_are_two_named, h1, ha, this]
  | true =>
    cases hb : btw b 0 (named - 1) with
    | false =>
      have : twoB named a b = false := by
        cases a <;> cases b <;> simp [twoB, btw] at hb ⊢
        intro q1 q2 q3 q4
        have := hb q3
        omega
      simp [mFun, mSeq, mRet, mDrop, mIfS, mNever, mSkip, mSet, mAsg, mPar2, mPar3, tgName, tgTup, tgCons, tgNil, mVar, mC, mNil, mCons, mTup, mLst, mOp, mUn, mB, mAnd, mOr, mNot, mIf, mChain, mFn, mCall, mIs, mFor, itemsT, itemsL, mYes, mPart, mNo, mSl, startD, oCmp, oI, oLt, oLe, oGt, oGe, oSub, oLen, oIx, isT, B_p_are_two_named, h1, ha, h2, hb, this]
    | true =>
      cases a with
      | int i =>
        cases b with
        | int j =>
          have : twoB named (.int i) (.int j) = !(i == j) := by
            simp [btw] at ha hb
            simp [twoB, ha, hb]
          simp [mFun, mSeq, mRet, mDrop, mIfS, mNever, mSkip, mSet, mAsg, mPar2, mPar3, tgName, tgTup, tgCons, tgNil, mVar, mC, mNil, mCons, mTup, mLst, mOp, mUn, mB, mAnd, mOr, mNot, mIf, mChain, mFn, mCall, mIs, mFor, itemsT, itemsL, mYes, mPart, mNo, mSl, startD, oCmp, oI, oLt, oLe, oGt, oGe, oSub, oLen, oIx, isT, B_p_are_two_named, h1, ha, h2, hb, this, oNe, oEq]
        | _ => simp [btw] at hb
      | _ => simp [btw] at ha
end MT

namespace MT
open PySem PySem.Spec PyProof.Rows L2 ML
def words : List D := [.str "know", .str "part", .str "turn"]
def wordB (d : D) : Bool := isS "know" d || (isS "part" d || isS "turn" d)
theorem oIn_words {d : D} {M : MM} (h : okD d = true) : oIn M d (.tup words) = some (.bl (wordB d)) := by
  have hw : okD (.tup words) = true := by decide +kernel
  show (if (okD d && okD (.tup words)) = true then some (D.bl (anyEq d words)) else none) = _
  rw [h, hw]
  show some (D.bl (anyEq d words)) = _
  congr 2
  have e : ∀ s : Str, oEqv (.str s) d = isS s d := fun s => by
    cases d with
    | str x =>
      show (s == x) = (x == s)
      rw [Bool.eq_iff_iff]
      simp only [beq_iff_eq]
      exact ⟨Eq.symm, Eq.symm⟩
    | _ => simp [oEqv, py, PyData.eqv, isS]
  show (oEqv (.str "know") d || (oEqv (.str "part") d || (oEqv (.str "turn") d || false))) = _
  rw [e, e, e, Bool.or_false]
  rfl
def deedB (named : Int) : D → Bool
  | .tup [h, a, b] => isS "pairs" h && (btw a 0 (named - 1) && answ b 6)
  | .tup [h, a, b, c] => twoB named a b && (if isS "takes" h then answ c 4 else isS "tie" h && wordB c)
  | _ => false
theorem ok_pairs : okD (.str "pairs") = true := by decide +kernel
theorem ok_takes : okD (.str "takes") = true := by decide +kernel
theorem ok_tie : okD (.str "tie") = true := by decide +kernel
theorem ok_ask : okD (.str "ask") = true := by decide +kernel
theorem at0 {α : Type} (x : α) (xs : List α) : atI (x :: xs) 0 = some x := atI_nat (j := 0) rfl
theorem at1 {α : Type} (x y : α) (xs : List α) : atI (x :: y :: xs) 1 = some y := atI_nat (j := 1) rfl
theorem at2 {α : Type} (x y z : α) (xs : List α) : atI (x :: y :: z :: xs) 2 = some z := atI_nat (j := 2) rfl
theorem at3 {α : Type} (x y z u : α) (xs : List α) : atI (x :: y :: z :: u :: xs) 3 = some u := atI_nat (j := 3) rfl
theorem at4 {α : Type} (x y z u v : α) (xs : List α) : atI (x :: y :: z :: u :: v :: xs) 4 = some v := atI_nat (j := 4) rfl
theorem g_is_deed_of (n m : Nat) (named : Int) (d : D) (M : MM) (hg : good m d = true) (hm : m ≤ 60) : G (n + 4) .p_is_deed_of [.int named, d] M = some (.bl (deedB named d), M) := by
  show mFun 2 (B_p_is_deed_of (G (n + 3))) [.int named, d] M = _
  have t3 : G (n + 3) .p_is_tuple_of [d, .int 3] M = some (.bl (tupN d 3), M) := g_is_tuple_of (n + 2) d 3 M
  have t4 : G (n + 3) .p_is_tuple_of [d, .int 4] M = some (.bl (tupN d 4), M) := g_is_tuple_of (n + 2) d 4 M
  cases d with
  | tup xs =>
    obtain ⟨k, hk, hl, hx⟩ := good_tup hg
    match xs, hx with
    | [], _ => simp [mFun, mSeq, mRet, mDrop, mIfS, mNever, mSkip, mSet, mAsg, mPar2, mPar3, tgName, tgTup, tgCons, tgNil, mVar, mC, mNil, mCons, mTup, mLst, mOp, mUn, mB, mAnd, mOr, mNot, mIf, mChain, mFn, mCall, mIs, mFor, itemsT, itemsL, mYes, mPart, mNo, mSl, startD, oCmp, oI, oLt, oLe, oGt, oGe, oSub, oLen, oIx, isT, B_p_is_deed_of, t3, t4, tupN, deedB]
    | [x], _ => simp [mFun, mSeq, mRet, mDrop, mIfS, mNever, mSkip, mSet, mAsg, mPar2, mPar3, tgName, tgTup, tgCons, tgNil, mVar, mC, mNil, mCons, mTup, mLst, mOp, mUn, mB, mAnd, mOr, mNot, mIf, mChain, mFn, mCall, mIs, mFor, itemsT, itemsL, mYes, mPart, mNo, mSl, startD, oCmp, oI, oLt, oLe, oGt, oGe, oSub, oLen, oIx, isT, B_p_is_deed_of, t3, t4, tupN, deedB]
    | [x, y], _ => simp [mFun, mSeq, mRet, mDrop, mIfS, mNever, mSkip, mSet, mAsg, mPar2, mPar3, tgName, tgTup, tgCons, tgNil, mVar, mC, mNil, mCons, mTup, mLst, mOp, mUn, mB, mAnd, mOr, mNot, mIf, mChain, mFn, mCall, mIs, mFor, itemsT, itemsL, mYes, mPart, mNo, mSl, startD, oCmp, oI, oLt, oLe, oGt, oGe, oSub, oLen, oIx, isT, B_p_is_deed_of, t3, t4, tupN, deedB]
    | [x, y, z], hx =>
      have ox : okD x = true := okD_of (hx x (by simp)) (by omega)
      have e1 := oEq_str (M := M) ox ok_pairs
      have b1 := g_is_between (n + 1) y 0 (named - 1) M
      have b2 : G (n + 3) .p_are_answers [z, .int 6] M = some (.bl (answ z 6), M) := g_are_answers n z 6 M (by decide)
      cases h1 : isS "pairs" x with
      | false => simp [mFun, mSeq, mRet, mDrop, mIfS, mNever, mSkip, mSet, mAsg, mPar2, mPar3, tgName, tgTup, tgCons, tgNil, mVar, mC, mNil, mCons, mTup, mLst, mOp, mUn, mB, mAnd, mOr, mNot, mIf, mChain, mFn, mCall, mIs, mFor, itemsT, itemsL, mYes, mPart, mNo, mSl, startD, oCmp, oI, oLt, oLe, oGt, oGe, oSub, oLen, oIx, isT, B_p_is_deed_of, t3, t4, tupN, deedB, at0, e1, h1]
      | true =>
        cases h2 : btw y 0 (named - 1) <;> simp [mFun, mSeq, mRet, mDrop, mIfS, mNever, mSkip, mSet, mAsg, mPar2, mPar3, tgName, tgTup, tgCons, tgNil, mVar, mC, mNil, mCons, mTup, mLst, mOp, mUn, mB, mAnd, mOr, mNot, mIf, mChain, mFn, mCall, mIs, mFor, itemsT, itemsL, mYes, mPart, mNo, mSl, startD, oCmp, oI, oLt, oLe, oGt, oGe, oSub, oLen, oIx, isT, B_p_is_deed_of, t3, t4, tupN, deedB, at0, at1, at2, e1, h1, b1, b2, h2]
    | [x, y, z, u], hx =>
      have ox : okD x = true := okD_of (hx x (by simp)) (by omega)
      have ou : okD u = true := okD_of (hx u (by simp)) (by omega)
      have e1 := oEq_str (M := M) ox ok_takes
      have e2 := oEq_str (M := M) ox ok_tie
      have b1 := g_are_two_named n named y z M
      have b2 : G (n + 3) .p_are_answers [u, .int 4] M = some (.bl (answ u 4), M) := g_are_answers n u 4 M (by decide)
      have b3 := oIn_words (M := M) ou
      simp only [words] at b3
      cases h0 : twoB named y z with
      | false => simp [mFun, mSeq, mRet, mDrop, mIfS, mNever, mSkip, mSet, mAsg, mPar2, mPar3, tgName, tgTup, tgCons, tgNil, mVar, mC, mNil, mCons, mTup, mLst, mOp, mUn, mB, mAnd, mOr, mNot, mIf, mChain, mFn, mCall, mIs, mFor, itemsT, itemsL, mYes, mPart, mNo, mSl, startD, oCmp, oI, oLt, oLe, oGt, oGe, oSub, oLen, oIx, isT, B_p_is_deed_of, t3, t4, tupN, deedB, at0, at1, at2, b1, h0]
      | true =>
        cases h1 : isS "takes" x with
        | true => simp [mFun, mSeq, mRet, mDrop, mIfS, mNever, mSkip, mSet, mAsg, mPar2, mPar3, tgName, tgTup, tgCons, tgNil, mVar, mC, mNil, mCons, mTup, mLst, mOp, mUn, mB, mAnd, mOr, mNot, mIf, mChain, mFn, mCall, mIs, mFor, itemsT, itemsL, mYes, mPart, mNo, mSl, startD, oCmp, oI, oLt, oLe, oGt, oGe, oSub, oLen, oIx, isT, B_p_is_deed_of, t3, t4, tupN, deedB, at0, at1, at2, at3, b1, h0, e1, h1, b2]
        | false => cases h2 : isS "tie" x <;> simp [mFun, mSeq, mRet, mDrop, mIfS, mNever, mSkip, mSet, mAsg, mPar2, mPar3, tgName, tgTup, tgCons, tgNil, mVar, mC, mNil, mCons, mTup, mLst, mOp, mUn, mB, mAnd, mOr, mNot, mIf, mChain, mFn, mCall, mIs, mFor, itemsT, itemsL, mYes, mPart, mNo, mSl, startD, oCmp, oI, oLt, oLe, oGt, oGe, oSub, oLen, oIx, isT, B_p_is_deed_of, t3, t4, tupN, deedB, at0, at1, at2, at3, b1, h0, e1, h1, e2, h2, b3]
    | x :: y :: z :: u :: v :: r, _ => simp [mFun, mSeq, mRet, mDrop, mIfS, mNever, mSkip, mSet, mAsg, mPar2, mPar3, tgName, tgTup, tgCons, tgNil, mVar, mC, mNil, mCons, mTup, mLst, mOp, mUn, mB, mAnd, mOr, mNot, mIf, mChain, mFn, mCall, mIs, mFor, itemsT, itemsL, mYes, mPart, mNo, mSl, startD, oCmp, oI, oLt, oLe, oGt, oGe, oSub, oLen, oIx, isT, B_p_is_deed_of, t3, t4, tupN, deedB]
  | _ => simp [mFun, mSeq, mRet, mDrop, mIfS, mNever, mSkip, mSet, mAsg, mPar2, mPar3, tgName, tgTup, tgCons, tgNil, mVar, mC, mNil, mCons, mTup, mLst, mOp, mUn, mB, mAnd, mOr, mNot, mIf, mChain, mFn, mCall, mIs, mFor, itemsT, itemsL, mYes, mPart, mNo, mSl, startD, oCmp, oI, oLt, oLe, oGt, oGe, oSub, oLen, oIx, isT, B_p_is_deed_of, t3, t4, tupN, deedB]
def askB (named : Int) : D → Bool
  | .tup [h, a, b, y, z] => isS "ask" h && twoB named a b
  | _ => false
theorem g_is_asking (n m : Nat) (named : Int) (d : D) (M : MM) (hg : good m d = true) (hm : m ≤ 60) : G (n + 4) .p_is_asking [.int named, d] M = some (.bl (askB named d), M) := by
  show mFun 2 (B_p_is_asking (G (n + 3))) [.int named, d] M = _
  have t5 : G (n + 3) .p_is_tuple_of [d, .int 5] M = some (.bl (tupN d 5), M) := g_is_tuple_of (n + 2) d 5 M
  cases d with
  | tup xs =>
    obtain ⟨k, hk, hl, hx⟩ := good_tup hg
    match xs, hx with
    | [], _ => simp [mFun, mSeq, mRet, mDrop, mIfS, mNever, mSkip, mSet, mAsg, mPar2, mPar3, tgName, tgTup, tgCons, tgNil, mVar, mC, mNil, mCons, mTup, mLst, mOp, mUn, mB, mAnd, mOr, mNot, mIf, mChain, mFn, mCall, mIs, mFor, itemsT, itemsL, mYes, mPart, mNo, mSl, startD, oCmp, oI, oLt, oLe, oGt, oGe, oSub, oLen, oIx, isT, B_p_is_asking, t5, tupN, askB]
    | [x], _ => simp [mFun, mSeq, mRet, mDrop, mIfS, mNever, mSkip, mSet, mAsg, mPar2, mPar3, tgName, tgTup, tgCons, tgNil, mVar, mC, mNil, mCons, mTup, mLst, mOp, mUn, mB, mAnd, mOr, mNot, mIf, mChain, mFn, mCall, mIs, mFor, itemsT, itemsL, mYes, mPart, mNo, mSl, startD, oCmp, oI, oLt, oLe, oGt, oGe, oSub, oLen, oIx, isT, B_p_is_asking, t5, tupN, askB]
    | [x, y], _ => simp [mFun, mSeq, mRet, mDrop, mIfS, mNever, mSkip, mSet, mAsg, mPar2, mPar3, tgName, tgTup, tgCons, tgNil, mVar, mC, mNil, mCons, mTup, mLst, mOp, mUn, mB, mAnd, mOr, mNot, mIf, mChain, mFn, mCall, mIs, mFor, itemsT, itemsL, mYes, mPart, mNo, mSl, startD, oCmp, oI, oLt, oLe, oGt, oGe, oSub, oLen, oIx, isT, B_p_is_asking, t5, tupN, askB]
    | [x, y, z], _ => simp [mFun, mSeq, mRet, mDrop, mIfS, mNever, mSkip, mSet, mAsg, mPar2, mPar3, tgName, tgTup, tgCons, tgNil, mVar, mC, mNil, mCons, mTup, mLst, mOp, mUn, mB, mAnd, mOr, mNot, mIf, mChain, mFn, mCall, mIs, mFor, itemsT, itemsL, mYes, mPart, mNo, mSl, startD, oCmp, oI, oLt, oLe, oGt, oGe, oSub, oLen, oIx, isT, B_p_is_asking, t5, tupN, askB]
    | [x, y, z, u], _ => simp [mFun, mSeq, mRet, mDrop, mIfS, mNever, mSkip, mSet, mAsg, mPar2, mPar3, tgName, tgTup, tgCons, tgNil, mVar, mC, mNil, mCons, mTup, mLst, mOp, mUn, mB, mAnd, mOr, mNot, mIf, mChain, mFn, mCall, mIs, mFor, itemsT, itemsL, mYes, mPart, mNo, mSl, startD, oCmp, oI, oLt, oLe, oGt, oGe, oSub, oLen, oIx, isT, B_p_is_asking, t5, tupN, askB]
    | [x, y, z, u, v], hx =>
      have ox : okD x = true := okD_of (hx x (by simp)) (by omega)
      have e1 := oNe_str (M := M) ox ok_ask
      have b1 := g_are_two_named n named y z M
      cases h1 : isS "ask" x <;> simp [mFun, mSeq, mRet, mDrop, mIfS, mNever, mSkip, mSet, mAsg, mPar2, mPar3, tgName, tgTup, tgCons, tgNil, mVar, mC, mNil, mCons, mTup, mLst, mOp, mUn, mB, mAnd, mOr, mNot, mIf, mChain, mFn, mCall, mIs, mFor, itemsT, itemsL, mYes, mPart, mNo, mSl, startD, oCmp, oI, oLt, oLe, oGt, oGe, oSub, oLen, oIx, isT, B_p_is_asking, t5, tupN, askB, at0, at1, at2, e1, h1, b1]
    | x :: y :: z :: u :: v :: w :: r, _ => simp [mFun, mSeq, mRet, mDrop, mIfS, mNever, mSkip, mSet, mAsg, mPar2, mPar3, tgName, tgTup, tgCons, tgNil, mVar, mC, mNil, mCons, mTup, mLst, mOp, mUn, mB, mAnd, mOr, mNot, mIf, mChain, mFn, mCall, mIs, mFor, itemsT, itemsL, mYes, mPart, mNo, mSl, startD, oCmp, oI, oLt, oLe, oGt, oGe, oSub, oLen, oIx, isT, B_p_is_asking, t5, tupN, askB]
  | _ => simp [mFun, mSeq, mRet, mDrop, mIfS, mNever, mSkip, mSet, mAsg, mPar2, mPar3, tgName, tgTup, tgCons, tgNil, mVar, mC, mNil, mCons, mTup, mLst, mOp, mUn, mB, mAnd, mOr, mNot, mIf, mChain, mFn, mCall, mIs, mFor, itemsT, itemsL, mYes, mPart, mNo, mSl, startD, oCmp, oI, oLt, oLe, oGt, oGe, oSub, oLen, oIx, isT, B_p_is_asking, t5, tupN, askB]
end MT

namespace MT
open PySem PySem.Spec PyProof.Rows L2 ML
/-! ### how many deeds, how many choices, how deep -/
abbrev T3 := Option (Nat × Nat × Nat)
def sumM (f : D → T3) : List D → T3
  | [] => some (0, 0, 0)
  | x :: xs => match f x, sumM f xs with
    | some (a, b, c), some (a', b', c') => some (a + a', b + b', max c c')
    | _, _ => none
def itM (named : Int) (sc : D → T3) (d : D) : T3 :=
  if deedB named d then some (1, 0, 0) else match d with
  | .tup [h, p, q, y, z] => if isS "ask" h && twoB named p q then match sc y, sc z with
      | some (a, b, c), some (a', b', c') => some (a + a', b + b' + 1, max c c' + 1)
      | _, _ => none
    else none
  | _ => none
def scM (named : Int) : Nat → D → T3
  | 0, _ => none
  | n + 1, d => match d with
    | .tup xs => sumM (itM named (scM named n)) xs
    | _ => none
theorem itM_pos {named : Int} {sc : D → T3} {d : D} {a b c : Nat} (h : itM named sc d = some (a, b, c)) : 1 ≤ a + b := by
  unfold itM at h
  split at h
  · cases h
    decide
  · split at h
    · split at h
      · split at h
        · cases h
          omega
        · cases h
      · cases h
    · cases h
def lbF (o : T3) (p l : Int) : Int := match o with
  | some (a, b, c) => if (a : Int) + b ≤ l ∧ (c : Int) ≤ p then l - (a + b) else -1
  | none => -1
def lbI (o : T3) (p l : Int) : Int := match o with
  | some (a, b, c) => if (a : Int) + b - 1 ≤ l ∧ (c : Int) ≤ p then l - (a + b - 1) else -1
  | none => -1
theorem lbI_ge {o : T3} {p l : Int} (h : -1 ≤ l) (ho : ∀ a b c, o = some (a, b, c) → 1 ≤ a + b) : -1 ≤ lbI o p l := by
  unfold lbI
  split
  · split <;> omega
  · omega
theorem lbF_ge {o : T3} {p l : Int} (h : -1 ≤ l) : -1 ≤ lbF o p l := by
  unfold lbF
  split
  · split <;> omega
  · omega
theorem fold_lb {f : D → T3} {p : Int} (hp : 0 ≤ p) : ∀ {xs : List D} {l : Int}, -1 ≤ l → (∀ x ∈ xs, ∀ a b c, f x = some (a, b, c) → 1 ≤ a + b) →
    xs.foldl (fun l x => lbI (f x) p l) l = match sumM f xs with
      | some (a, b, c) => if (a : Int) + b - xs.length ≤ l ∧ (c : Int) ≤ p then l - (a + b - xs.length) else -1
      | none => -1
  | [], l, hl, _ => by
    show l = if ((0 : Nat) : Int) + (0 : Nat) - ((0 : Nat) : Int) ≤ l ∧ ((0 : Nat) : Int) ≤ p then _ else _
    split
    · show l = l - (((0 : Nat) : Int) + (0 : Nat) - ((0 : Nat) : Int))
      omega
    · omega
  | x :: xs, l, hl, hx => by
    have hx0 := hx x List.mem_cons_self
    rw [List.foldl_cons, fold_lb hp (lbI_ge hl hx0) fun y hy => hx y (List.mem_cons_of_mem _ hy)]
    have len : ∀ {ys : List D} {a b c : Nat}, (∀ y ∈ ys, ∀ a b c, f y = some (a, b, c) → 1 ≤ a + b) → sumM f ys = some (a, b, c) → ys.length ≤ a + b := fun {ys} => by
      induction ys with
      | nil => intro a b c _ h; cases h; exact Nat.le_refl _
      | cons y ys ih =>
        intro a b c hy h
        unfold sumM at h
        split at h
        · rename_i a1 b1 c1 a2 b2 c2 h1 h2
          cases h
          have := hy y List.mem_cons_self _ _ _ h1
          have := ih (fun z hz => hy z (List.mem_cons_of_mem _ hz)) h2
          simp only [List.length_cons]
          omega
        · cases h
    show _ = match (match f x, sumM f xs with
      | some (a, b, c), some (a', b', c') => some (a + a', b + b', max c c')
      | _, _ => none) with
      | some (a, b, c) => if (a : Int) + b - (x :: xs).length ≤ l ∧ (c : Int) ≤ p then l - (a + b - (x :: xs).length) else -1
      | none => -1
    have hlx := fun a b c => len (a := a) (b := b) (c := c) fun y hy => hx y (List.mem_cons_of_mem _ hy)
    cases h2 : sumM f xs with
    | none => cases h1 : f x <;> rfl
    | some v2 =>
      obtain ⟨a2, b2, c2⟩ := v2
      have l2 := hlx _ _ _ h2
      cases h1 : f x with
      | none =>
        show (if (a2 : Int) + b2 - xs.length ≤ -1 ∧ (c2 : Int) ≤ p then _ else _) = (-1 : Int)
        rw [if_neg (by omega)]
      | some v1 =>
        obtain ⟨a1, b1, c1⟩ := v1
        have l1 := hx0 _ _ _ h1
        show (if (a2 : Int) + b2 - xs.length ≤ lbI (some (a1, b1, c1)) p l ∧ (c2 : Int) ≤ p then lbI (some (a1, b1, c1)) p l - (a2 + b2 - xs.length) else -1) =
          if ((a1 + a2 : Nat) : Int) + ((b1 + b2 : Nat) : Int) - ((xs.length + 1 : Nat) : Int) ≤ l ∧ ((max c1 c2 : Nat) : Int) ≤ p then l - (((a1 + a2 : Nat) : Int) + ((b1 + b2 : Nat) : Int) - ((xs.length + 1 : Nat) : Int)) else -1
        generalize hu : lbI (some (a1, b1, c1)) p l = u
        by_cases q1 : (a1 : Int) + b1 - 1 ≤ l ∧ (c1 : Int) ≤ p
        · have hu' : u = l - (a1 + b1 - 1) := hu.symm.trans (if_pos q1)
          by_cases q2 : (a2 : Int) + b2 - xs.length ≤ u ∧ (c2 : Int) ≤ p
          · rw [if_pos q2, if_pos (by omega)]
            omega
          · rw [if_neg q2, if_neg (by omega)]
        · have hu' : u = -1 := hu.symm.trans (if_neg q1)
          rw [if_neg (by omega), if_neg (by omega)]
theorem len_sum {f : D → T3} : ∀ {ys : List D} {a b c : Nat}, (∀ y ∈ ys, ∀ a b c, f y = some (a, b, c) → 1 ≤ a + b) → sumM f ys = some (a, b, c) → ys.length ≤ a + b
  | [], a, b, c, _, h => by cases h; exact Nat.le_refl _
  | y :: ys, a, b, c, hy, h => by
    unfold sumM at h
    split at h
    · rename_i a1 b1 c1 a2 b2 c2 h1 h2
      cases h
      have := hy y List.mem_cons_self _ _ _ h1
      have := len_sum (fun z hz => hy z (List.mem_cons_of_mem _ hz)) h2
      simp only [List.length_cons]
      omega
    · cases h
/-- the loop over the items -/
theorem lb_loop {cl : Fid → FC} {named p : Int} {d : D} {f : D → T3} {M : MM} : ∀ {xs : List D} {l : Int} {e : Option D}, -1 ≤ l → (∀ x ∈ xs, ∀ a b c, f x = some (a, b, c) → 1 ≤ a + b) →
    (∀ x ∈ xs, ∀ l, -1 ≤ l → cl .p_left_behind_item [.int named, x, .int p, .int l] M = some (.int (lbI (f x) p l), M)) →
    ∃ e', forD (tgName 4) (mAsg (mCall (cl .p_left_behind_item) (mCons (mVar 0) (mCons (mVar 4) (mCons (mVar 2) (mCons (mVar 3) mNil))))) (tgName 3)) xs [some (.int named), some d, some (.int p), some (.int l), e] M =
      some (.nx [some (.int named), some d, some (.int p), some (.int (xs.foldl (fun l x => lbI (f x) p l) l)), e'], M)
  | [], l, e, _, _, _ => ⟨e, rfl⟩
  | x :: xs, l, e, hl, hx, hc => by
    have h0 := hc x List.mem_cons_self l hl
    obtain ⟨e', h⟩ := lb_loop (cl := cl) (named := named) (p := p) (d := d) (f := f) (M := M) (xs := xs) (l := lbI (f x) p l) (e := some x) (lbI_ge hl (hx x List.mem_cons_self)) (fun y hy => hx y (List.mem_cons_of_mem _ hy)) (fun y hy => hc y (List.mem_cons_of_mem _ hy))
    refine ⟨e', ?_⟩
    rw [List.foldl_cons, ← h]
    simp [forD, mFun, mSeq, mRet, mDrop, mIfS, mNever, mSkip, mSet, mAsg, mPar2, mPar3, tgName, tgTup, tgCons, tgNil, mVar, mC, mNil, mCons, mTup, mLst, mOp, mUn, mB, mAnd, mOr, mNot, mIf, mChain, mFn, mCall, mIs, mFor, itemsT, itemsL, mYes, mPart, mNo, mSl, startD, oCmp, oI, oLt, oLe, oGt, oGe, oSub, oLen, oIx, isT, h0]
theorem itM_not {named : Int} {sc : D → T3} {d : D} (h1 : deedB named d = false) (h2 : askB named d = false) : itM named sc d = none := by
  unfold itM
  rw [h1]
  simp only [Bool.false_eq_true, if_false]
  split
  · rename_i h a b y z
    have : (isS "ask" h && twoB named a b) = false := h2
    rw [this]
    rfl
  · rfl
def PLB (named : Int) (n : Nat) : Prop := ∀ (d : D), good n d = true → ∀ (p l : Int), 0 ≤ p → -1 ≤ l → ∀ (m : Nat) (M : MM), G (m + 2 * n + 6) .p_left_behind [.int named, d, .int p, .int l] M = some (.int (lbF (scM named n d) p l), M)
theorem g_item {named : Int} {n : Nat} (ih : PLB named n) (hn : n ≤ 60) (x : D) (hg : good n x = true) (p l : Int) (hp : 0 ≤ p) (hl : -1 ≤ l) (m : Nat) (M : MM) :
    G (m + 2 * n + 7) .p_left_behind_item [.int named, x, .int p, .int l] M = some (.int (lbI (itM named (scM named n) x) p l), M) := by
  show mFun 4 (B_p_left_behind_item (G (m + 2 * n + 6))) [.int named, x, .int p, .int l] M = _
  have e1 : G (m + 2 * n + 6) .p_is_deed_of [.int named, x] M = _ := g_is_deed_of (m + 2 * n + 2) n named x M hg hn
  have e2 : G (m + 2 * n + 6) .p_is_asking [.int named, x] M = _ := g_is_asking (m + 2 * n + 2) n named x M hg hn
  cases h1 : deedB named x with
  | true =>
    have : itM named (scM named n) x = some (1, 0, 0) := by unfold itM; rw [h1]; rfl
    have q : lbI (some (1, 0, 0)) p l = l := by
      simp only [lbI]
      split <;> omega
    simp [mFun, mSeq, mRet, mDrop, mIfS, mNever, mSkip, mSet, mAsg, mPar2, mPar3, tgName, tgTup, tgCons, tgNil, mVar, mC, mNil, mCons, mTup, mLst, mOp, mUn, mB, mAnd, mOr, mNot, mIf, mChain, mFn, mCall, mIs, mFor, itemsT, itemsL, mYes, mPart, mNo, mSl, startD, oCmp, oI, oLt, oLe, oGt, oGe, oSub, oLen, oIx, isT, B_p_left_behind_item, e1, h1, this, q]
  | false =>
    cases h2 : askB named x with
    | false =>
      have := itM_not (sc := scM named n) h1 h2
      by_cases h3 : p = 0
      · subst h3
        simp [mFun, mSeq, mRet, mDrop, mIfS, mNever, mSkip, mSet, mAsg, mPar2, mPar3, tgName, tgTup, tgCons, tgNil, mVar, mC, mNil, mCons, mTup, mLst, mOp, mUn, mB, mAnd, mOr, mNot, mIf, mChain, mFn, mCall, mIs, mFor, itemsT, itemsL, mYes, mPart, mNo, mSl, startD, oCmp, oI, oLt, oLe, oGt, oGe, oSub, oLen, oIx, isT, B_p_left_behind_item, e1, h1, e2, h2, this, lbI, oEq, oNeg]
      · have h3' : (p == 0) = false := by simpa using h3
        simp [mFun, mSeq, mRet, mDrop, mIfS, mNever, mSkip, mSet, mAsg, mPar2, mPar3, tgName, tgTup, tgCons, tgNil, mVar, mC, mNil, mCons, mTup, mLst, mOp, mUn, mB, mAnd, mOr, mNot, mIf, mChain, mFn, mCall, mIs, mFor, itemsT, itemsL, mYes, mPart, mNo, mSl, startD, oCmp, oI, oLt, oLe, oGt, oGe, oSub, oLen, oIx, isT, B_p_left_behind_item, e1, h1, e2, h2, this, lbI, oEq, oNeg, h3']
    | true =>
      unfold askB at h2
      split at h2
      · rename_i h a b y z
        have hI : itM named (scM named n) (.tup [h, a, b, y, z]) = match scM named n y, scM named n z with
            | some (a, b, c), some (a', b', c') => some (a + a', b + b' + 1, max c c' + 1)
            | _, _ => none := by
          unfold itM
          rw [h1]
          simp only [Bool.false_eq_true, if_false]
          rw [h2]
          rfl
        have h2' : askB named (.tup [h, a, b, y, z]) = true := h2
        by_cases h3 : p = 0
        · subst h3
          have : lbI (itM named (scM named n) (.tup [h, a, b, y, z])) 0 l = -1 := by
            rw [hI]
            cases scM named n y with
            | none => rfl
            | some v =>
              cases scM named n z with
              | none => rfl
              | some v' =>
                obtain ⟨a1, b1, c1⟩ := v
                obtain ⟨a2, b2, c2⟩ := v'
                simp only [lbI]
                rw [if_neg (by omega)]
          simp [mFun, mSeq, mRet, mDrop, mIfS, mNever, mSkip, mSet, mAsg, mPar2, mPar3, tgName, tgTup, tgCons, tgNil, mVar, mC, mNil, mCons, mTup, mLst, mOp, mUn, mB, mAnd, mOr, mNot, mIf, mChain, mFn, mCall, mIs, mFor, itemsT, itemsL, mYes, mPart, mNo, mSl, startD, oCmp, oI, oLt, oLe, oGt, oGe, oSub, oLen, oIx, isT, B_p_left_behind_item, e1, h1, e2, h2', this, oEq, oNeg]
        · have h3' : (p == 0) = false := by simpa using h3
          obtain ⟨k, hk, _, hx⟩ := good_tup hg
          have gy := good_mono (hx y (by simp)) (show k ≤ n by omega)
          have gz := good_mono (hx z (by simp)) (show k ≤ n by omega)
          have r1 := ih y gy (p - 1) l (by omega) hl m M
          have r2 := ih z gz (p - 1) (lbF (scM named n y) (p - 1) l) (by omega) (lbF_ge hl) m M
          have q : lbF (scM named n z) (p - 1) (lbF (scM named n y) (p - 1) l) = lbI (itM named (scM named n) (.tup [h, a, b, y, z])) p l := by
            rw [hI]
            cases scM named n y with
            | none =>
              cases scM named n z with
              | none => rfl
              | some v' =>
                obtain ⟨a2, b2, c2⟩ := v'
                show (if (a2 : Int) + b2 ≤ -1 ∧ (c2 : Int) ≤ p - 1 then (-1 : Int) - (a2 + b2) else -1) = -1
                exact if_neg (by omega)
            | some v =>
              cases scM named n z with
              | none => rfl
              | some v' =>
                obtain ⟨a1, b1, c1⟩ := v
                obtain ⟨a2, b2, c2⟩ := v'
                show (if (a2 : Int) + b2 ≤ lbF (some (a1, b1, c1)) (p - 1) l ∧ (c2 : Int) ≤ p - 1 then lbF (some (a1, b1, c1)) (p - 1) l - (a2 + b2) else -1) =
                  if ((a1 + a2 : Nat) : Int) + ((b1 + b2 + 1 : Nat) : Int) - 1 ≤ l ∧ ((max c1 c2 + 1 : Nat) : Int) ≤ p then l - (((a1 + a2 : Nat) : Int) + ((b1 + b2 + 1 : Nat) : Int) - 1) else -1
                generalize hu : lbF (some (a1, b1, c1)) (p - 1) l = u
                by_cases q1 : (a1 : Int) + b1 ≤ l ∧ (c1 : Int) ≤ p - 1
                · have hu' : u = l - (a1 + b1) := hu.symm.trans (if_pos q1)
                  by_cases q2 : (a2 : Int) + b2 ≤ u ∧ (c2 : Int) ≤ p - 1
                  · rw [if_pos q2, if_pos (by omega)]
                    omega
                  · rw [if_neg q2, if_neg (by omega)]
                · have hu' : u = -1 := hu.symm.trans (if_neg q1)
                  rw [if_neg (by omega), if_neg (by omega)]
          simp [mFun, mSeq, mRet, mDrop, mIfS, mNever, mSkip, mSet, mAsg, mPar2, mPar3, tgName, tgTup, tgCons, tgNil, mVar, mC, mNil, mCons, mTup, mLst, mOp, mUn, mB, mAnd, mOr, mNot, mIf, mChain, mFn, mCall, mIs, mFor, itemsT, itemsL, mYes, mPart, mNo, mSl, startD, oCmp, oI, oLt, oLe, oGt, oGe, oSub, oLen, oIx, isT, B_p_left_behind_item, e1, h1, e2, h2', oEq, oNeg, h3', at3, at4, r1, r2, q]
      · cases h2
theorem g_left_behind {named : Int} : ∀ {n : Nat}, n ≤ 60 → PLB named n
  | 0, _ => by
    intro d hg p l hp hl m M
    show mFun 5 (B_p_left_behind (G (m + 5))) [.int named, d, .int p, .int l] M = _
    cases d with
    | tup xs => cases hg
    | _ => rfl
  | n + 1, hn => by
    intro d hg p l hp hl m M
    have ih := g_left_behind (named := named) (n := n) (by omega)
    show mFun 5 (B_p_left_behind (G (m + 2 * n + 7))) [.int named, d, .int p, .int l] M = _
    cases d with
    | tup xs =>
      obtain ⟨k, hk, hlen, hx⟩ := good_tup hg
      have hk' : k = n := by omega
      subst hk'
      have hpos : ∀ x ∈ xs, ∀ a b c, itM named (scM named k) x = some (a, b, c) → 1 ≤ a + b := fun x _ a b c h => itM_pos h
      by_cases h1 : l < (xs.length : Int)
      · have : lbF (scM named (k + 1) (.tup xs)) p l = -1 := by
          show lbF (sumM (itM named (scM named k)) xs) p l = -1
          cases hs : sumM (itM named (scM named k)) xs with
          | none => rfl
          | some v =>
            obtain ⟨a, b, c⟩ := v
            have := len_sum hpos hs
            simp only [lbF]
            rw [if_neg (by omega)]
        simp [mFun, mSeq, mRet, mDrop, mIfS, mNever, mSkip, mSet, mAsg, mPar2, mPar3, tgName, tgTup, tgCons, tgNil, mVar, mC, mNil, mCons, mTup, mLst, mOp, mUn, mB, mAnd, mOr, mNot, mIf, mChain, mFn, mCall, mIs, mFor, itemsT, itemsL, mYes, mPart, mNo, mSl, startD, oCmp, oI, oLt, oLe, oGt, oGe, oSub, oLen, oIx, isT, B_p_left_behind, h1, this, oNeg]
      · obtain ⟨e', hL⟩ := lb_loop (cl := G (m + 2 * k + 7)) (named := named) (p := p) (d := .tup xs) (f := itM named (scM named k)) (M := M) (xs := xs) (l := l - xs.length) (e := none) (by omega) hpos (fun x hxm l hl => g_item ih (by omega) x (hx x hxm) p l hp hl m M)
        have hf := fold_lb (p := p) hp (xs := xs) (l := l - xs.length) (by omega) hpos
        have : xs.foldl (fun l x => lbI (itM named (scM named k) x) p l) (l - xs.length) = lbF (scM named (k + 1) (.tup xs)) p l := by
          rw [hf]
          show _ = lbF (sumM (itM named (scM named k)) xs) p l
          cases hs : sumM (itM named (scM named k)) xs with
          | none => rfl
          | some v =>
            obtain ⟨a, b, c⟩ := v
            simp only [lbF]
            by_cases q : (a : Int) + b ≤ l ∧ (c : Int) ≤ p
            · rw [if_pos q, if_pos (by omega)]
              omega
            · rw [if_neg q, if_neg (by omega)]
        rw [this] at hL
        simp [mFun, mSeq, mRet, mDrop, mIfS, mNever, mSkip, mSet, mAsg, mPar2, mPar3, tgName, tgTup, tgCons, tgNil, mVar, mC, mNil, mCons, mTup, mLst, mOp, mUn, mB, mAnd, mOr, mNot, mIf, mChain, mFn, mCall, mIs, mFor, itemsT, itemsL, mYes, mPart, mNo, mSl, startD, oCmp, oI, oLt, oLe, oGt, oGe, oSub, oLen, oIx, isT, B_p_left_behind, h1, hL]
    | _ => rfl
/-- it is a script -/
def scrB (o : T3) : Bool := match o with
  | some (a, b, c) => decide (a + b ≤ 30) && decide (c ≤ 4)
  | none => false
theorem g_is_script_of {named : Int} {n : Nat} (hn : n ≤ 60) (d : D) (hg : good n d = true) (m : Nat) (M : MM) : G (m + 2 * n + 7) .p_is_script_of [.int named, d] M = some (.bl (scrB (scM named n d)), M) := by
  show mFun 2 (B_p_is_script_of (G (m + 2 * n + 6))) [.int named, d] M = _
  have h := g_left_behind (named := named) hn d hg 4 30 (by decide) (by decide) m M
  have q : decide (0 ≤ lbF (scM named n d) 4 30) = scrB (scM named n d) := by
    cases scM named n d with
    | none => rfl
    | some v =>
      obtain ⟨a, b, c⟩ := v
      show decide (0 ≤ if (a : Int) + b ≤ 30 ∧ (c : Int) ≤ 4 then (30 : Int) - (a + b) else -1) = (decide (a + b ≤ 30) && decide (c ≤ 4))
      by_cases q : (a : Int) + b ≤ 30 ∧ (c : Int) ≤ 4
      · rw [if_pos q, decide_eq_true (show (0 : Int) ≤ 30 - (a + b) by omega), decide_eq_true (show a + b ≤ 30 by omega), decide_eq_true (show c ≤ 4 by omega)]
        rfl
      · rw [if_neg q]
        symm
        show _ = false
        rw [Bool.and_eq_false_iff]
        by_cases q2 : a + b ≤ 30
        · exact Or.inr (decide_eq_false (by omega))
        · exact Or.inl (decide_eq_false q2)
  simp [mFun, mSeq, mRet, mDrop, mIfS, mNever, mSkip, mSet, mAsg, mPar2, mPar3, tgName, tgTup, tgCons, tgNil, mVar, mC, mNil, mCons, mTup, mLst, mOp, mUn, mB, mAnd, mOr, mNot, mIf, mChain, mFn, mCall, mIs, mFor, itemsT, itemsL, mYes, mPart, mNo, mSl, startD, oCmp, oI, oLt, oLe, oGt, oGe, oSub, oLen, oIx, isT, B_p_is_script_of, h, q]
def namedB (i : Int) : Prop := 1 ≤ i ∧ i ≤ 3
theorem g_check_named {named : Int} (h : namedB named) (n : Nat) (M : MM) : G (n + 3) .p_check_named [.int named] M = some (.non, M) := by
  show mFun 1 (B_p_check_named (G (n + 2))) [.int named] M = _
  have h1 := g_is_between n (.int named) 1 3 M
  simp [mFun, mSeq, mRet, mDrop, mIfS, mNever, mSkip, mSet, mAsg, mPar2, mPar3, tgName, tgTup, tgCons, tgNil, mVar, mC, mNil, mCons, mTup, mLst, mOp, mUn, mB, mAnd, mOr, mNot, mIf, mChain, mFn, mCall, mIs, mFor, itemsT, itemsL, mYes, mPart, mNo, mSl, startD, oCmp, oI, oLt, oLe, oGt, oGe, oSub, oLen, oIx, isT, B_p_check_named, h1, btw, h.1, h.2]
theorem g_is_script {named : Int} (hN : namedB named) {n : Nat} (hn : n ≤ 60) (d : D) (hg : good n d = true) (m : Nat) (M : MM) : G (m + 2 * n + 8) .p_is_script [.int named, d] M = some (.bl (scrB (scM named n d)), M) := by
  show mFun 2 (B_p_is_script (G (m + 2 * n + 7))) [.int named, d] M = _
  have h1 := g_check_named hN (m + 2 * n + 4) M
  have h2 := g_is_script_of (named := named) hn d hg m M
  simp [mFun, mSeq, mRet, mDrop, mIfS, mNever, mSkip, mSet, mAsg, mPar2, mPar3, tgName, tgTup, tgCons, tgNil, mVar, mC, mNil, mCons, mTup, mLst, mOp, mUn, mB, mAnd, mOr, mNot, mIf, mChain, mFn, mCall, mIs, mFor, itemsT, itemsL, mYes, mPart, mNo, mSl, startD, oCmp, oI, oLt, oLe, oGt, oGe, oSub, oLen, oIx, isT, B_p_is_script, h1, h2]
theorem g_check_script {named : Int} (hN : namedB named) {n : Nat} (hn : n ≤ 60) (d : D) (hg : good n d = true) (hs : scrB (scM named n d) = true) (m : Nat) (M : MM) : G (m + 2 * n + 8) .p_check_script [.int named, d] M = some (.non, M) := by
  show mFun 2 (B_p_check_script (G (m + 2 * n + 7))) [.int named, d] M = _
  have h1 := g_check_named hN (m + 2 * n + 4) M
  have h2 := g_is_script_of (named := named) hn d hg m M
  simp [mFun, mSeq, mRet, mDrop, mIfS, mNever, mSkip, mSet, mAsg, mPar2, mPar3, tgName, tgTup, tgCons, tgNil, mVar, mC, mNil, mCons, mTup, mLst, mOp, mUn, mB, mAnd, mOr, mNot, mIf, mChain, mFn, mCall, mIs, mFor, itemsT, itemsL, mYes, mPart, mNo, mSl, startD, oCmp, oI, oLt, oLe, oGt, oGe, oSub, oLen, oIx, isT, B_p_check_script, h1, h2, hs]
end MT

namespace MT
open PySem PySem.Spec PyProof.Rows L2 ML
def wholeB (d : D) (lo hi : Int) : Bool := match d with
  | .tup xs => xs.all fun x => btw x lo hi
  | _ => false
theorem oEq_nil {n : Nat} {xs : List D} {M : MM} (h : good n (.lst xs) = true) (hn : n ≤ 64) : oEq M (.lst xs) (.lst []) = some (.bl xs.isEmpty) := by
  show (if (okD (.lst xs) && okD (.lst [])) = true then some (D.bl (oEqv (.lst xs) (.lst []))) else none) = _
  rw [okD_of h hn, show okD (.lst []) = true by decide +kernel]
  cases xs <;> simp [oEqv, py, pys, PyData.eqv, PyData.eqvAll]
theorem oEq_unit {n : Nat} {xs : List D} {M : MM} (h : good n (.tup xs) = true) (hn : n ≤ 64) : oEq M (.tup xs) (.tup []) = some (.bl xs.isEmpty) := by
  show (if (okD (.tup xs) && okD (.tup [])) = true then some (D.bl (oEqv (.tup xs) (.tup []))) else none) = _
  rw [okD_of h hn, show okD (.tup []) = true by decide +kernel]
  cases xs <;> simp [oEqv, py, pys, PyData.eqv, PyData.eqvAll]
theorem good_ones {xs : List D} (p : D → Bool) (h : xs.length ≤ 1000) : good 1 (.lst ((xs.filter p).map fun _ => D.int 1)) = true := by
  simp only [good, Bool.and_eq_true, List.all_eq_true, decide_eq_true_eq, List.length_map]
  refine ⟨Nat.le_trans (List.length_filter_le _ _) h, fun x hx => ?_⟩
  obtain ⟨y, _, rfl⟩ := List.mem_map.mp hx
  rfl
theorem g_are_whole (n : Nat) (d : D) (lo hi : Int) (M : MM) (hl : ∀ xs, d = .tup xs → xs.length ≤ 1000) : G (n + 1) .Lare_whole [d, .int lo, .int hi] M = some (.bl (wholeB d lo hi), M) := by
  show mFun 4 (B_Lare_whole (G n)) [d, .int lo, .int hi] M = _
  cases d with
  | tup xs =>
    have hx := hl xs rfl
    have h3 : lcD (tgName 3) (mB (mOr (mIs "bool" (mVar 3)) (mOr (mNot (mIs "int" (mVar 3))) (mNot (mChain oLe oLe (mVar 1) (mVar 3) (mVar 2)))))) (mC (.int 1)) (wipeD [some (D.tup xs), some (.int lo), some (.int hi), none] [3]) xs M =
        some ((xs.filter fun x => !btw x lo hi).map fun _ => .int 1, M) := by
      refine lcD_filter _ _ fun x _ => ⟨_, rfl, ?_, fun _ => rfl⟩
      cases x with
      | int i =>
        by_cases h1 : lo ≤ i <;> by_cases h2 : i ≤ hi <;> simp [wipeD, mFun, mSeq, mRet, mDrop, mIfS, mNever, mSkip, mSet, mAsg, mPar2, mPar3, tgName, tgTup, tgCons, tgNil, mVar, mC, mNil, mCons, mTup, mLst, mOp, mUn, mB, mAnd, mOr, mNot, mIf, mChain, mFn, mCall, mIs, mFor, itemsT, itemsL, mYes, mPart, mNo, mSl, startD, oCmp, oI, oLt, oLe, oGt, oGe, oSub, oLen, oIx, isT, btw, h1, h2]
      | _ => rfl
    have h4 := oEq_nil (M := M) (good_ones (fun x => !btw x lo hi) hx) (by decide)
    have h5 : ((xs.filter fun x => !btw x lo hi).map fun _ => D.int 1).isEmpty = wholeB (.tup xs) lo hi := by
      rw [List.isEmpty_map, Bool.eq_iff_iff, List.isEmpty_iff, List.filter_eq_nil_iff]
      simp [wholeB]
    rw [h5] at h4
    simp only [oLe, oCmp] at h3
    simp [mFun, mSeq, mRet, mDrop, mIfS, mNever, mSkip, mSet, mAsg, mPar2, mPar3, tgName, tgTup, tgCons, tgNil, mVar, mC, mNil, mCons, mTup, mLst, mOp, mUn, mB, mAnd, mOr, mNot, mIf, mChain, mFn, mCall, mIs, mFor, itemsT, itemsL, mYes, mPart, mNo, mSl, startD, oCmp, oI, oLt, oLe, oGt, oGe, oSub, oLen, oIx, isT, B_Lare_whole, mLc, h3, hx, h4]
  | _ => rfl
theorem g_is_two (n : Nat) (named : Int) (a b : D) (M : MM) : G (n + 2) .Lis_two [.int named, .tup [a, b]] M = some (.bl (twoB named a b), M) := by
  show mFun 2 (B_Lis_two (G (n + 1))) [.int named, .tup [a, b]] M = _
  have h1 := g_are_whole n (.tup [a, b]) 0 (named - 1) M (fun xs h => by cases h; simp)
  cases ha : btw a 0 (named - 1) with
  | false =>
    have h2 : wholeB (.tup [a, b]) 0 (named - 1) = false := by simp [wholeB, ha]
    have : twoB named a b = false := by
      cases a <;> cases b <;> simp [twoB, btw] at ha ⊢
      intro q1 q2
      have := ha q1
      omega
    simp [mFun, mSeq, mRet, mDrop, mIfS, mNever, mSkip, mSet, mAsg, mPar2, mPar3, tgName, tgTup, tgCons, tgNil, mVar, mC, mNil, mCons, mTup, mLst, mOp, mUn, mB, mAnd, mOr, mNot, mIf, mChain, mFn, mCall, mIs, mFor, itemsT, itemsL, mYes, mPart, mNo, mSl, startD, oCmp, oI, oLt, oLe, oGt, oGe, oSub, oLen, oIx, isT, B_Lis_two, h1, h2, this]
  | true =>
    cases hb : btw b 0 (named - 1) with
    | false =>
      have h2 : wholeB (.tup [a, b]) 0 (named - 1) = false := by simp [wholeB, hb]
      have : twoB named a b = false := by
        cases a <;> cases b <;> simp [twoB, btw] at hb ⊢
        intro q1 q2 q3 q4
        have := hb q3
        omega
      simp [mFun, mSeq, mRet, mDrop, mIfS, mNever, mSkip, mSet, mAsg, mPar2, mPar3, tgName, tgTup, tgCons, tgNil, mVar, mC, mNil, mCons, mTup, mLst, mOp, mUn, mB, mAnd, mOr, mNot, mIf, mChain, mFn, mCall, mIs, mFor, itemsT, itemsL, mYes, mPart, mNo, mSl, startD, oCmp, oI, oLt, oLe, oGt, oGe, oSub, oLen, oIx, isT, B_Lis_two, h1, h2, this]
    | true =>
      have h2 : wholeB (.tup [a, b]) 0 (named - 1) = true := by simp [wholeB, ha, hb]
      cases a with
      | int i =>
        cases b with
        | int j =>
          have : twoB named (.int i) (.int j) = !(i == j) := by
            simp [btw] at ha hb
            simp [twoB, ha, hb]
          simp [mFun, mSeq, mRet, mDrop, mIfS, mNever, mSkip, mSet, mAsg, mPar2, mPar3, tgName, tgTup, tgCons, tgNil, mVar, mC, mNil, mCons, mTup, mLst, mOp, mUn, mB, mAnd, mOr, mNot, mIf, mChain, mFn, mCall, mIs, mFor, itemsT, itemsL, mYes, mPart, mNo, mSl, startD, oCmp, oI, oLt, oLe, oGt, oGe, oSub, oLen, oIx, isT, B_Lis_two, h1, h2, this, oNe, oEq, at0, at1]
        | _ => simp [btw] at hb
      | _ => simp [btw] at ha
theorem answ_f {xs : List D} {k : Nat} (h : wholeB (.tup xs) 0 1 = false) : answ (.tup xs) k = false := by
  have h' : (xs.all fun x => btw x 0 1) = false := h
  simp only [answ, h', Bool.and_false]
theorem answ_t {xs : List D} {k : Nat} (h : wholeB (.tup xs) 0 1 = true) : ((xs.length : Int) == (k : Int)) = answ (.tup xs) k := by
  have h' : (xs.all fun x => btw x 0 1) = true := h
  simp only [answ, h', Bool.and_true]
  rw [Bool.eq_iff_iff]
  simp only [beq_iff_eq]
  omega
theorem answ_t6 {xs : List D} (h : wholeB (.tup xs) 0 1 = true) : ((xs.length : Int) == 6) = answ (.tup xs) 6 := answ_t (k := 6) h
theorem answ_t4 {xs : List D} (h : wholeB (.tup xs) 0 1 = true) : ((xs.length : Int) == 4) = answ (.tup xs) 4 := answ_t (k := 4) h
theorem answ_whole (d : D) (k : Nat) : (match d with | .tup xs => wholeB d 0 1 && (xs.length == k) | _ => false) = answ d k := by
  cases d with
  | tup xs =>
    show (wholeB (.tup xs) 0 1 && (xs.length == k)) = ((xs.length == k) && xs.all fun x => btw x 0 1)
    rw [Bool.and_comm]
    rfl
  | _ => rfl
theorem isS_str (s t : Str) : isS s (.str t) = (t == s) := rfl
theorem cutD_12 (a b c : D) : cutD [a, b, c] (some 1) (some 2) = [b] := rfl
theorem cutD_13 (a b c d : D) : cutD [a, b, c, d] (some 1) (some 3) = [b, c] := rfl
theorem cutD_13' (a b c d e : D) : cutD [a, b, c, d, e] (some 1) (some 3) = [b, c] := rfl
theorem cutD_3 (a b c d e : D) : cutD [a, b, c, d, e] (some 3) none = [d, e] := rfl
theorem good_len {n : Nat} {d : D} (h : good n d = true) : ∀ xs, d = .tup xs → xs.length ≤ 1000 := fun xs e => by
  subst e
  obtain ⟨_, _, q, _⟩ := good_tup h
  exact q
theorem g_Lis_deed (n m : Nat) (named : Int) (s : Str) (r : List D) (M : MM) (hg : good m (.tup (.str s :: r)) = true) (hm : m ≤ 60) : G (n + 3) .Lis_deed [.int named, .tup (.str s :: r)] M = some (.bl (deedB named (.tup (.str s :: r))), M) := by
  show mFun 2 (B_Lis_deed (G (n + 2))) [.int named, .tup (.str s :: r)] M = _
  obtain ⟨k, hk, hl, hx⟩ := good_tup hg
  cases h1 : (s == ("pairs" : Str)) with
  | true =>
    match r, hx with
    | [], _ => simp [mFun, mSeq, mRet, mDrop, mIfS, mNever, mSkip, mSet, mAsg, mPar2, mPar3, tgName, tgTup, tgCons, tgNil, mVar, mC, mNil, mCons, mTup, mLst, mOp, mUn, mB, mAnd, mOr, mNot, mIf, mChain, mFn, mCall, mIs, mFor, itemsT, itemsL, mYes, mPart, mNo, mSl, startD, oCmp, oI, oLt, oLe, oGt, oGe, oSub, oLen, oIx, isT, B_Lis_deed, at0, oEq, h1, deedB]
    | [a], _ => simp [mFun, mSeq, mRet, mDrop, mIfS, mNever, mSkip, mSet, mAsg, mPar2, mPar3, tgName, tgTup, tgCons, tgNil, mVar, mC, mNil, mCons, mTup, mLst, mOp, mUn, mB, mAnd, mOr, mNot, mIf, mChain, mFn, mCall, mIs, mFor, itemsT, itemsL, mYes, mPart, mNo, mSl, startD, oCmp, oI, oLt, oLe, oGt, oGe, oSub, oLen, oIx, isT, B_Lis_deed, at0, oEq, h1, deedB]
    | [a, b], hx =>
      have w1 := g_are_whole (n + 1) (.tup [a]) 0 (named - 1) M (fun xs h => by cases h; simp)
      have w2 := g_are_whole (n + 1) b 0 1 M (good_len (hx b (by simp)))
      have w3 : wholeB (.tup [a]) 0 (named - 1) = btw a 0 (named - 1) := by simp [wholeB]
      cases h2 : btw a 0 (named - 1) with
      | false => simp [mFun, mSeq, mRet, mDrop, mIfS, mNever, mSkip, mSet, mAsg, mPar2, mPar3, tgName, tgTup, tgCons, tgNil, mVar, mC, mNil, mCons, mTup, mLst, mOp, mUn, mB, mAnd, mOr, mNot, mIf, mChain, mFn, mCall, mIs, mFor, itemsT, itemsL, mYes, mPart, mNo, mSl, startD, oCmp, oI, oLt, oLe, oGt, oGe, oSub, oLen, oIx, isT, B_Lis_deed, at0, at1, at2, oEq, h1, deedB, isS_str, oSl, cutD_12, w1, w3, h2]
      | true =>
        cases b with
        | tup xs =>
          cases h3 : wholeB (.tup xs) 0 1 with
          | false => simp [mFun, mSeq, mRet, mDrop, mIfS, mNever, mSkip, mSet, mAsg, mPar2, mPar3, tgName, tgTup, tgCons, tgNil, mVar, mC, mNil, mCons, mTup, mLst, mOp, mUn, mB, mAnd, mOr, mNot, mIf, mChain, mFn, mCall, mIs, mFor, itemsT, itemsL, mYes, mPart, mNo, mSl, startD, oCmp, oI, oLt, oLe, oGt, oGe, oSub, oLen, oIx, isT, B_Lis_deed, at0, at1, at2, oEq, h1, deedB, isS_str, oSl, cutD_12, w1, w3, h2, w2, h3, answ_f h3]
          | true => simp [mFun, mSeq, mRet, mDrop, mIfS, mNever, mSkip, mSet, mAsg, mPar2, mPar3, tgName, tgTup, tgCons, tgNil, mVar, mC, mNil, mCons, mTup, mLst, mOp, mUn, mB, mAnd, mOr, mNot, mIf, mChain, mFn, mCall, mIs, mFor, itemsT, itemsL, mYes, mPart, mNo, mSl, startD, oCmp, oI, oLt, oLe, oGt, oGe, oSub, oLen, oIx, isT, B_Lis_deed, at0, at1, at2, oEq, h1, deedB, isS_str, oSl, cutD_12, w1, w3, h2, w2, h3, answ_t6 h3]
        | _ => simp [mFun, mSeq, mRet, mDrop, mIfS, mNever, mSkip, mSet, mAsg, mPar2, mPar3, tgName, tgTup, tgCons, tgNil, mVar, mC, mNil, mCons, mTup, mLst, mOp, mUn, mB, mAnd, mOr, mNot, mIf, mChain, mFn, mCall, mIs, mFor, itemsT, itemsL, mYes, mPart, mNo, mSl, startD, oCmp, oI, oLt, oLe, oGt, oGe, oSub, oLen, oIx, isT, B_Lis_deed, at0, at1, at2, oEq, h1, deedB, isS_str, oSl, cutD_12, w1, w3, h2, w2, wholeB, answ]
    | [a, b, c], _ =>
      have h2 : (s == ("takes" : Str)) = false := by
        have : s = ("pairs" : Str) := by simpa using h1
        subst this
        decide
      have h3 : (s == ("tie" : Str)) = false := by
        have : s = ("pairs" : Str) := by simpa using h1
        subst this
        decide
      simp [mFun, mSeq, mRet, mDrop, mIfS, mNever, mSkip, mSet, mAsg, mPar2, mPar3, tgName, tgTup, tgCons, tgNil, mVar, mC, mNil, mCons, mTup, mLst, mOp, mUn, mB, mAnd, mOr, mNot, mIf, mChain, mFn, mCall, mIs, mFor, itemsT, itemsL, mYes, mPart, mNo, mSl, startD, oCmp, oI, oLt, oLe, oGt, oGe, oSub, oLen, oIx, isT, B_Lis_deed, at0, oEq, h1, deedB, isS_str, h2, h3]
    | a :: b :: c :: d :: r, _ =>
      have : ((r.length : Int) + 1 + 1 + 1 + 1 + 1 == 3) = false := by rw [beq_eq_false_iff_ne]; omega
      simp [mFun, mSeq, mRet, mDrop, mIfS, mNever, mSkip, mSet, mAsg, mPar2, mPar3, tgName, tgTup, tgCons, tgNil, mVar, mC, mNil, mCons, mTup, mLst, mOp, mUn, mB, mAnd, mOr, mNot, mIf, mChain, mFn, mCall, mIs, mFor, itemsT, itemsL, mYes, mPart, mNo, mSl, startD, oCmp, oI, oLt, oLe, oGt, oGe, oSub, oLen, oIx, isT, B_Lis_deed, at0, oEq, h1, deedB, this]
  | false =>
    match r, hx with
    | [], _ => simp [mFun, mSeq, mRet, mDrop, mIfS, mNever, mSkip, mSet, mAsg, mPar2, mPar3, tgName, tgTup, tgCons, tgNil, mVar, mC, mNil, mCons, mTup, mLst, mOp, mUn, mB, mAnd, mOr, mNot, mIf, mChain, mFn, mCall, mIs, mFor, itemsT, itemsL, mYes, mPart, mNo, mSl, startD, oCmp, oI, oLt, oLe, oGt, oGe, oSub, oLen, oIx, isT, B_Lis_deed, at0, oEq, oNe, h1, deedB]
    | [a], _ => simp [mFun, mSeq, mRet, mDrop, mIfS, mNever, mSkip, mSet, mAsg, mPar2, mPar3, tgName, tgTup, tgCons, tgNil, mVar, mC, mNil, mCons, mTup, mLst, mOp, mUn, mB, mAnd, mOr, mNot, mIf, mChain, mFn, mCall, mIs, mFor, itemsT, itemsL, mYes, mPart, mNo, mSl, startD, oCmp, oI, oLt, oLe, oGt, oGe, oSub, oLen, oIx, isT, B_Lis_deed, at0, oEq, oNe, h1, deedB]
    | [a, b], _ => simp [mFun, mSeq, mRet, mDrop, mIfS, mNever, mSkip, mSet, mAsg, mPar2, mPar3, tgName, tgTup, tgCons, tgNil, mVar, mC, mNil, mCons, mTup, mLst, mOp, mUn, mB, mAnd, mOr, mNot, mIf, mChain, mFn, mCall, mIs, mFor, itemsT, itemsL, mYes, mPart, mNo, mSl, startD, oCmp, oI, oLt, oLe, oGt, oGe, oSub, oLen, oIx, isT, B_Lis_deed, at0, oEq, oNe, h1, deedB, isS_str]
    | [a, b, c], hx =>
      have w1 := g_is_two n named a b M
      have w2 := g_are_whole (n + 1) c 0 1 M (good_len (hx c (by simp)))
      have oc : okD c = true := okD_of (hx c (by simp)) (by omega)
      have b3 := oIn_words (M := M) oc
      simp only [words] at b3
      cases h2 : twoB named a b with
      | false => simp [mFun, mSeq, mRet, mDrop, mIfS, mNever, mSkip, mSet, mAsg, mPar2, mPar3, tgName, tgTup, tgCons, tgNil, mVar, mC, mNil, mCons, mTup, mLst, mOp, mUn, mB, mAnd, mOr, mNot, mIf, mChain, mFn, mCall, mIs, mFor, itemsT, itemsL, mYes, mPart, mNo, mSl, startD, oCmp, oI, oLt, oLe, oGt, oGe, oSub, oLen, oIx, isT, B_Lis_deed, at0, oEq, oNe, h1, deedB, oSl, cutD_13, w1, h2]
      | true =>
        cases h3 : (s == ("takes" : Str)) with
        | true =>
          cases c with
          | tup xs =>
            cases h4 : wholeB (.tup xs) 0 1 with
            | false => simp [mFun, mSeq, mRet, mDrop, mIfS, mNever, mSkip, mSet, mAsg, mPar2, mPar3, tgName, tgTup, tgCons, tgNil, mVar, mC, mNil, mCons, mTup, mLst, mOp, mUn, mB, mAnd, mOr, mNot, mIf, mChain, mFn, mCall, mIs, mFor, itemsT, itemsL, mYes, mPart, mNo, mSl, startD, oCmp, oI, oLt, oLe, oGt, oGe, oSub, oLen, oIx, isT, B_Lis_deed, at0, at3, oEq, oNe, h1, deedB, isS_str, oSl, cutD_13, w1, h2, h3, w2, h4, answ_f h4]
            | true => simp [mFun, mSeq, mRet, mDrop, mIfS, mNever, mSkip, mSet, mAsg, mPar2, mPar3, tgName, tgTup, tgCons, tgNil, mVar, mC, mNil, mCons, mTup, mLst, mOp, mUn, mB, mAnd, mOr, mNot, mIf, mChain, mFn, mCall, mIs, mFor, itemsT, itemsL, mYes, mPart, mNo, mSl, startD, oCmp, oI, oLt, oLe, oGt, oGe, oSub, oLen, oIx, isT, B_Lis_deed, at0, at3, oEq, oNe, h1, deedB, isS_str, oSl, cutD_13, w1, h2, h3, w2, h4, answ_t4 h4]
          | _ => simp [mFun, mSeq, mRet, mDrop, mIfS, mNever, mSkip, mSet, mAsg, mPar2, mPar3, tgName, tgTup, tgCons, tgNil, mVar, mC, mNil, mCons, mTup, mLst, mOp, mUn, mB, mAnd, mOr, mNot, mIf, mChain, mFn, mCall, mIs, mFor, itemsT, itemsL, mYes, mPart, mNo, mSl, startD, oCmp, oI, oLt, oLe, oGt, oGe, oSub, oLen, oIx, isT, B_Lis_deed, at0, at3, oEq, oNe, h1, deedB, isS_str, oSl, cutD_13, w1, h2, h3, w2, wholeB, answ]
        | false =>
          cases h4 : (s == ("tie" : Str)) with
          | false => simp [mFun, mSeq, mRet, mDrop, mIfS, mNever, mSkip, mSet, mAsg, mPar2, mPar3, tgName, tgTup, tgCons, tgNil, mVar, mC, mNil, mCons, mTup, mLst, mOp, mUn, mB, mAnd, mOr, mNot, mIf, mChain, mFn, mCall, mIs, mFor, itemsT, itemsL, mYes, mPart, mNo, mSl, startD, oCmp, oI, oLt, oLe, oGt, oGe, oSub, oLen, oIx, isT, B_Lis_deed, at0, at3, oEq, oNe, h1, deedB, isS_str, oSl, cutD_13, w1, h2, h3, h4]
          | true =>
            cases c with
            | str t => simp [mFun, mSeq, mRet, mDrop, mIfS, mNever, mSkip, mSet, mAsg, mPar2, mPar3, tgName, tgTup, tgCons, tgNil, mVar, mC, mNil, mCons, mTup, mLst, mOp, mUn, mB, mAnd, mOr, mNot, mIf, mChain, mFn, mCall, mIs, mFor, itemsT, itemsL, mYes, mPart, mNo, mSl, startD, oCmp, oI, oLt, oLe, oGt, oGe, oSub, oLen, oIx, isT, B_Lis_deed, at0, at3, oEq, oNe, h1, deedB, isS_str, oSl, cutD_13, w1, h2, h3, h4, b3]
            | _ => simp [mFun, mSeq, mRet, mDrop, mIfS, mNever, mSkip, mSet, mAsg, mPar2, mPar3, tgName, tgTup, tgCons, tgNil, mVar, mC, mNil, mCons, mTup, mLst, mOp, mUn, mB, mAnd, mOr, mNot, mIf, mChain, mFn, mCall, mIs, mFor, itemsT, itemsL, mYes, mPart, mNo, mSl, startD, oCmp, oI, oLt, oLe, oGt, oGe, oSub, oLen, oIx, isT, B_Lis_deed, at0, at3, oEq, oNe, h1, deedB, isS_str, oSl, cutD_13, w1, h2, h3, h4, wordB, isS]
    | a :: b :: c :: d :: r, _ =>
      have : ((r.length : Int) + 1 + 1 + 1 + 1 + 1 == 4) = false := by rw [beq_eq_false_iff_ne]; omega
      simp [mFun, mSeq, mRet, mDrop, mIfS, mNever, mSkip, mSet, mAsg, mPar2, mPar3, tgName, tgTup, tgCons, tgNil, mVar, mC, mNil, mCons, mTup, mLst, mOp, mUn, mB, mAnd, mOr, mNot, mIf, mChain, mFn, mCall, mIs, mFor, itemsT, itemsL, mYes, mPart, mNo, mSl, startD, oCmp, oI, oLt, oLe, oGt, oGe, oSub, oLen, oIx, isT, B_Lis_deed, at0, oEq, oNe, h1, deedB, this]
end MT

namespace MT
open PySem PySem.Spec PyProof.Rows L2 ML
theorem oEq_ss {M : MM} {a b : Str} : oEq M (.str a) (.str b) = some (.bl (a == b)) := rfl
theorem oEq_ii {M : MM} {a b : Int} : oEq M (.int a) (.int b) = some (.bl (a == b)) := rfl
def mD : T3 → D
  | some (a, b, c) => .tup [.int a, .int b, .int c]
  | none => .non
theorem mD_good (o : T3) : good 1 (mD o) = true := by
  cases o with
  | none => rfl
  | some v => obtain ⟨a, b, c⟩ := v; rfl
def mItem : FS := mSeq (mIfS (mB (mOr (mNot (mIs "tuple" (mVar 5))) (mOr (mOp oEq (mVar 5) (mTup mNil)) (mNot (mIs "str" (mOp oIx (mVar 5) (mC (.int 0)))))))) (mRet (mC .non)) mSkip) mSkip
/-- the turn of the law's measuring -/
def mTurn (cl : Fid → FC) : FS :=
    (mSeq (mIfS (mB (mOr (mNot (mIs "tuple" (mVar 5))) (mOr (mOp oEq (mVar 5) (mTup mNil)) (mNot (mIs "str" (mOp oIx (mVar 5) (mC (.int 0)))))))) (mRet (mC .non)) mSkip)
    (mIfS (mB (mOp oEq (mOp oIx (mVar 5) (mC (.int 0))) (mC (.str "ask")))) (mSeq (mIfS (mB (mOr (mOp oNe (mFn oLen (mCons (mVar 5) mNil)) (mC (.int 5))) (mNot (mCall (cl .Lis_two) (mCons (mVar 0) (mCons (mSl (mVar 5) (mPart (mC (.int 1))) (mPart (mC (.int 3)))) mNil)))))) (mRet (mC .non)) mSkip)
    (mSeq (mSet 6 (mLc itemsT (mSl (mVar 5) (mPart (mC (.int 3))) mNo) (tgName 7) mYes (mCall (cl .Lmeasured) (mCons (mVar 0) (mCons (mVar 7) mNil))) [7]))
    (mSeq (mIfS (mB (mOp oIn (mC .non) (mVar 6))) (mRet (mC .non)) mSkip)
    (mSeq (mPar2 2 3 (mCons (mOp oAdd (mOp oAdd (mVar 2) (mOp oIx (mOp oIx (mVar 6) (mC (.int 0))) (mC (.int 0)))) (mOp oIx (mOp oIx (mVar 6) (mC (.int 1))) (mC (.int 0)))) (mCons (mOp oAdd (mOp oAdd (mOp oAdd (mVar 3) (mC (.int 1))) (mOp oIx (mOp oIx (mVar 6) (mC (.int 0))) (mC (.int 1)))) (mOp oIx (mOp oIx (mVar 6) (mC (.int 1))) (mC (.int 1)))) mNil)))
    (mAsg (mFn oMax (mCons (mVar 4) (mCons (mOp oAdd (mC (.int 1)) (mOp oIx (mOp oIx (mVar 6) (mC (.int 0))) (mC (.int 2)))) (mCons (mOp oAdd (mC (.int 1)) (mOp oIx (mOp oIx (mVar 6) (mC (.int 1))) (mC (.int 2)))) mNil)))) (tgName 4)))))) (mIfS (mB (mCall (cl .Lis_deed) (mCons (mVar 0) (mCons (mVar 5) mNil)))) (mAsg (mOp oAdd (mVar 2) (mC (.int 1))) (tgName 2)) (mRet (mC .non)))))
theorem measured_eq (cl : Fid → FC) : B_Lmeasured cl = mSeq (mIfS (mB (mNot (mIs "tuple" (mVar 1)))) (mRet (mC .non)) mSkip)
    (mSeq (mAsg (mTup (mCons (mC (.int 0)) (mCons (mC (.int 0)) (mCons (mC (.int 0)) mNil)))) (tgTup 3 (tgCons (tgName 2) (tgCons (tgName 3) (tgCons (tgName 4) tgNil)))))
    (mSeq (mFor itemsT (mVar 1) (tgName 5) (mTurn cl)) (mRet (mTup (mCons (mVar 2) (mCons (mVar 3) (mCons (mVar 4) mNil))))))) := rfl
def PMS (named : Int) (n : Nat) : Prop := ∀ (d : D), good n d = true → ∀ (m : Nat) (M : MM), G (m + n + 4) .Lmeasured [.int named, d] M = some (mD (scM named n d), M)
theorem deed_ask {named : Int} {r : List D} : deedB named (.tup (.str "ask" :: r)) = false := by
  match r with
  | [] => rfl
  | [a] => rfl
  | [a, b] => simp [deedB, show isS "pairs" (.str "ask") = false by decide]
  | [a, b, c] => simp [deedB, show isS "takes" (.str "ask") = false by decide, show isS "tie" (.str "ask") = false by decide]
  | a :: b :: c :: d :: r => rfl
theorem it_str {named : Int} {sc : D → T3} {h : D} {r : List D} (hh : isT "str" h = false) : itM named sc (.tup (h :: r)) = none := by
  have q : ∀ s, isS s h = false := fun s => by cases h <;> first | rfl | (simp [isT] at hh)
  unfold itM
  have e : deedB named (.tup (h :: r)) = false := by
    match r with
    | [] => rfl
    | [a] => rfl
    | [a, b] => simp [deedB, q]
    | [a, b, c] => simp [deedB, q]
    | a :: b :: c :: d :: r => rfl
  rw [e]
  simp only [Bool.false_eq_true, if_false]
  split
  · rename_i h' a b y z hh2
    injection hh2 with e1
    injection e1 with e2 e3
    subst e2
    rw [q]
    rfl
  · rfl
theorem turn_ok {named : Int} {n : Nat} (ih : PMS named n) (hn : n ≤ 50) (x : D) (hg : good n x = true) (m : Nat) (M : MM) (d : D) (a b c : Nat) (e5 e6 e7 : Option D) :
    (itM named (scM named n) x = none → mTurn (G (m + n + 4)) [some (.int named), some d, some (.int a), some (.int b), some (.int c), some x, e6, e7] M = some (.rt .non, M)) ∧
    (∀ a' b' c', itM named (scM named n) x = some (a', b', c') → ∃ e6', mTurn (G (m + n + 4)) [some (.int named), some d, some (.int a), some (.int b), some (.int c), some x, e6, e7] M =
      some (.nx [some (.int named), some d, some (.int ((a + a' : Nat) : Int)), some (.int ((b + b' : Nat) : Int)), some (.int ((max c c' : Nat) : Int)), some x, e6', e7], M)) := by
  cases x with
  | tup xs =>
    have u1 := oEq_unit (M := M) hg (by omega)
    match xs, hg, u1 with
    | [], _, u1 =>
      constructor
      · intro _
        simp [mTurn, mFun, mSeq, mRet, mDrop, mIfS, mNever, mSkip, mSet, mAsg, mPar2, mPar3, tgName, tgTup, tgCons, tgNil, mVar, mC, mNil, mCons, mTup, mLst, mOp, mUn, mB, mAnd, mOr, mNot, mIf, mChain, mFn, mCall, mIs, mFor, itemsT, itemsL, mYes, mPart, mNo, mSl, startD, oCmp, oI, oLt, oLe, oGt, oGe, oSub, oLen, oIx, isT, u1]
      · intro a' b' c' h
        simp [itM, deedB] at h
    | h :: r, hg, u1 =>
      cases hh : isT "str" h with
      | false =>
        have q := it_str (named := named) (sc := scM named n) (r := r) hh
        constructor
        · intro _
          cases h <;> first | (simp [isT] at hh; done) | simp [mTurn, mFun, mSeq, mRet, mDrop, mIfS, mNever, mSkip, mSet, mAsg, mPar2, mPar3, tgName, tgTup, tgCons, tgNil, mVar, mC, mNil, mCons, mTup, mLst, mOp, mUn, mB, mAnd, mOr, mNot, mIf, mChain, mFn, mCall, mIs, mFor, itemsT, itemsL, mYes, mPart, mNo, mSl, startD, oCmp, oI, oLt, oLe, oGt, oGe, oSub, oLen, oIx, isT, u1, at0]
        · intro a' b' c' h1
          rw [q] at h1
          cases h1
      | true =>
        obtain ⟨s, rfl⟩ : ∃ s, h = .str s := by
          cases h <;> first | exact ⟨_, rfl⟩ | (simp [isT] at hh)
        by_cases hs : s = ("ask" : Str)
        · subst hs
          have dq : deedB named (.tup (.str "ask" :: r)) = false := deed_ask
          match r, hg, u1, dq with
          | [], _, u1, dq =>
            constructor
            · intro _
              simp [mTurn, mFun, mSeq, mRet, mDrop, mIfS, mNever, mSkip, mSet, mAsg, mPar2, mPar3, tgName, tgTup, tgCons, tgNil, mVar, mC, mNil, mCons, mTup, mLst, mOp, mUn, mB, mAnd, mOr, mNot, mIf, mChain, mFn, mCall, mIs, mFor, itemsT, itemsL, mYes, mPart, mNo, mSl, startD, oCmp, oI, oLt, oLe, oGt, oGe, oSub, oLen, oIx, isT, u1, at0, oEq_ss, oEq_ii, oNe]
            · intro a' b' c' h1
              simp [itM, dq] at h1
          | [p], _, u1, dq =>
            constructor
            · intro _
              simp [mTurn, mFun, mSeq, mRet, mDrop, mIfS, mNever, mSkip, mSet, mAsg, mPar2, mPar3, tgName, tgTup, tgCons, tgNil, mVar, mC, mNil, mCons, mTup, mLst, mOp, mUn, mB, mAnd, mOr, mNot, mIf, mChain, mFn, mCall, mIs, mFor, itemsT, itemsL, mYes, mPart, mNo, mSl, startD, oCmp, oI, oLt, oLe, oGt, oGe, oSub, oLen, oIx, isT, u1, at0, oEq_ss, oEq_ii, oNe]
            · intro a' b' c' h1
              simp [itM, dq] at h1
          | [p, q], _, u1, dq =>
            constructor
            · intro _
              simp [mTurn, mFun, mSeq, mRet, mDrop, mIfS, mNever, mSkip, mSet, mAsg, mPar2, mPar3, tgName, tgTup, tgCons, tgNil, mVar, mC, mNil, mCons, mTup, mLst, mOp, mUn, mB, mAnd, mOr, mNot, mIf, mChain, mFn, mCall, mIs, mFor, itemsT, itemsL, mYes, mPart, mNo, mSl, startD, oCmp, oI, oLt, oLe, oGt, oGe, oSub, oLen, oIx, isT, u1, at0, oEq_ss, oEq_ii, oNe]
            · intro a' b' c' h1
              simp [itM, dq] at h1
          | [p, q, y], _, u1, dq =>
            constructor
            · intro _
              simp [mTurn, mFun, mSeq, mRet, mDrop, mIfS, mNever, mSkip, mSet, mAsg, mPar2, mPar3, tgName, tgTup, tgCons, tgNil, mVar, mC, mNil, mCons, mTup, mLst, mOp, mUn, mB, mAnd, mOr, mNot, mIf, mChain, mFn, mCall, mIs, mFor, itemsT, itemsL, mYes, mPart, mNo, mSl, startD, oCmp, oI, oLt, oLe, oGt, oGe, oSub, oLen, oIx, isT, u1, at0, oEq_ss, oEq_ii, oNe]
            · intro a' b' c' h1
              simp [itM, dq] at h1
          | [p, q, y, z], hg, u1, dq =>
            have w1 : G (m + n + 4) .Lis_two [.int named, .tup [p, q]] M = _ := g_is_two (m + n + 2) named p q M
            obtain ⟨k, hk, _, hx⟩ := good_tup hg
            have gy := good_mono (hx y (by simp)) (show k ≤ n by omega)
            have gz := good_mono (hx z (by simp)) (show k ≤ n by omega)
            have ry := ih y gy m M
            have rz := ih z gz m M
            have hI : itM named (scM named n) (.tup [.str "ask", p, q, y, z]) = if twoB named p q then match scM named n y, scM named n z with
                | some (a, b, c), some (a', b', c') => some (a + a', b + b' + 1, max c c' + 1)
                | _, _ => none
              else none := by
              unfold itM
              rw [dq]
              show (if (isS "ask" (.str "ask") && twoB named p q) = true then _ else _) = _
              rw [show isS "ask" (.str "ask") = true by decide, Bool.true_and]
              all_goals (cases scM named n y <;> cases scM named n z <;> rfl)
            cases ht : twoB named p q with
            | false =>
              rw [hI, ht]
              constructor
              · intro _
                simp [mTurn, mFun, mSeq, mRet, mDrop, mIfS, mNever, mSkip, mSet, mAsg, mPar2, mPar3, tgName, tgTup, tgCons, tgNil, mVar, mC, mNil, mCons, mTup, mLst, mOp, mUn, mB, mAnd, mOr, mNot, mIf, mChain, mFn, mCall, mIs, mFor, itemsT, itemsL, mYes, mPart, mNo, mSl, startD, oCmp, oI, oLt, oLe, oGt, oGe, oSub, oLen, oIx, isT, u1, at0, oEq_ss, oEq_ii, oNe, oSl, cutD_13', w1, ht]
              · intro a' b' c' h1
                cases h1
            | true =>
              have h3 : lcD (tgName 7) mYes (mCall (G (m + n + 4) Fid.Lmeasured) (mCons (mVar 0) (mCons (mVar 7) mNil))) (wipeD [some (D.int named), some d, some (.int a), some (.int b), some (.int c), some (.tup [.str "ask", p, q, y, z]), e6, e7] [7]) [y, z] M = some ([mD (scM named n y), mD (scM named n z)], M) := by
                simp [lcD, wipeD, mFun, mSeq, mRet, mDrop, mIfS, mNever, mSkip, mSet, mAsg, mPar2, mPar3, tgName, tgTup, tgCons, tgNil, mVar, mC, mNil, mCons, mTup, mLst, mOp, mUn, mB, mAnd, mOr, mNot, mIf, mChain, mFn, mCall, mIs, mFor, itemsT, itemsL, mYes, mPart, mNo, mSl, startD, oCmp, oI, oLt, oLe, oGt, oGe, oSub, oLen, oIx, isT, ry, rz]
              have hok : okD (.lst [mD (scM named n y), mD (scM named n z)]) = true := okD_of (n := 2) (by simp [good, mD_good]) (by decide)
              have h4 : oIn M .non (.lst [mD (scM named n y), mD (scM named n z)]) = some (.bl ((scM named n y).isNone || (scM named n z).isNone)) := by
                show (if (okD .non && okD (.lst [mD (scM named n y), mD (scM named n z)])) = true then some (D.bl (anyEq .non [mD (scM named n y), mD (scM named n z)])) else none) = _
                rw [hok, show okD .non = true by decide +kernel]
                have e : ∀ o : T3, oEqv (mD o) .non = o.isNone := fun o => by
                  cases o with
                  | none => simp [oEqv, mD, py, PyData.eqv]
                  | some v => obtain ⟨v1, v2, v3⟩ := v; simp [oEqv, mD, py, PyData.eqv]
                simp [anyEq, e]
              rw [hI, ht]
              simp only [if_true]
              cases hy : scM named n y with
              | none =>
                constructor
                · intro _
                  rw [hy] at h3 h4
                  simp at h4
                  simp [mTurn, mFun, mSeq, mRet, mDrop, mIfS, mNever, mSkip, mSet, mAsg, mPar2, mPar3, tgName, tgTup, tgCons, tgNil, mVar, mC, mNil, mCons, mTup, mLst, mOp, mUn, mB, mAnd, mOr, mNot, mIf, mChain, mFn, mCall, mIs, mFor, itemsT, itemsL, mYes, mPart, mNo, mSl, startD, oCmp, oI, oLt, oLe, oGt, oGe, oSub, oLen, oIx, isT, u1, at0, oEq_ss, oEq_ii, oNe, oSl, cutD_13', cutD_3, w1, ht, mLc, h3, h4]
                · intro a' b' c' h1
                  cases h1
              | some vy =>
                obtain ⟨ay, by_, cy⟩ := vy
                cases hz : scM named n z with
                | none =>
                  constructor
                  · intro _
                    rw [hy, hz] at h3 h4
                    simp at h4
                    simp [mTurn, mFun, mSeq, mRet, mDrop, mIfS, mNever, mSkip, mSet, mAsg, mPar2, mPar3, tgName, tgTup, tgCons, tgNil, mVar, mC, mNil, mCons, mTup, mLst, mOp, mUn, mB, mAnd, mOr, mNot, mIf, mChain, mFn, mCall, mIs, mFor, itemsT, itemsL, mYes, mPart, mNo, mSl, startD, oCmp, oI, oLt, oLe, oGt, oGe, oSub, oLen, oIx, isT, u1, at0, oEq_ss, oEq_ii, oNe, oSl, cutD_13', cutD_3, w1, ht, mLc, h3, h4]
                  · intro a' b' c' h1
                    cases h1
                | some vz =>
                  obtain ⟨az, bz, cz⟩ := vz
                  constructor
                  · intro h1
                    cases h1
                  · intro a' b' c' h1
                    cases h1
                    rw [hy, hz] at h3 h4
                    simp at h4
                    simp only [mD] at h3 h4
                    refine ⟨some (.lst [mD (some (ay, by_, cy)), mD (some (az, bz, cz))]), ?_⟩
                    simp [mTurn, mFun, mSeq, mRet, mDrop, mIfS, mNever, mSkip, mSet, mAsg, mPar2, mPar3, tgName, tgTup, tgCons, tgNil, mVar, mC, mNil, mCons, mTup, mLst, mOp, mUn, mB, mAnd, mOr, mNot, mIf, mChain, mFn, mCall, mIs, mFor, itemsT, itemsL, mYes, mPart, mNo, mSl, startD, oCmp, oI, oLt, oLe, oGt, oGe, oSub, oLen, oIx, isT, u1, at0, oEq_ss, oEq_ii, oNe, oSl, cutD_13', cutD_3, w1, ht, mLc, h3, h4, mD, at1, at2, oAdd, oMax]
                    split <;> split <;> omega
          | p :: q :: y :: z :: t :: r, _, u1, dq =>
            have : ((r.length : Int) + 1 + 1 + 1 + 1 + 1 + 1 == 5) = false := by rw [beq_eq_false_iff_ne]; omega
            constructor
            · intro _
              simp [mTurn, mFun, mSeq, mRet, mDrop, mIfS, mNever, mSkip, mSet, mAsg, mPar2, mPar3, tgName, tgTup, tgCons, tgNil, mVar, mC, mNil, mCons, mTup, mLst, mOp, mUn, mB, mAnd, mOr, mNot, mIf, mChain, mFn, mCall, mIs, mFor, itemsT, itemsL, mYes, mPart, mNo, mSl, startD, oCmp, oI, oLt, oLe, oGt, oGe, oSub, oLen, oIx, isT, u1, at0, oEq_ss, oEq_ii, oNe, this]
            · intro a' b' c' h1
              simp [itM, dq] at h1
        · have hs' : (s == ("ask" : Str)) = false := by simpa using hs
          have w1 : G (m + n + 4) .Lis_deed [.int named, .tup (.str s :: r)] M = _ := g_Lis_deed (m + n + 1) n named s r M hg (by omega)
          have hI : itM named (scM named n) (.tup (.str s :: r)) = if deedB named (.tup (.str s :: r)) then some (1, 0, 0) else none := by
            unfold itM
            split
            · rfl
            · split
              · rename_i h' a b y z hh2
                injection hh2 with e1
                injection e1 with e2 e3
                subst e2
                have : isS "ask" (.str s) = false := hs'
                rw [this]
                rfl
              · rfl
          rw [hI]
          cases hd : deedB named (.tup (.str s :: r)) with
          | false =>
            constructor
            · intro _
              simp [mTurn, mFun, mSeq, mRet, mDrop, mIfS, mNever, mSkip, mSet, mAsg, mPar2, mPar3, tgName, tgTup, tgCons, tgNil, mVar, mC, mNil, mCons, mTup, mLst, mOp, mUn, mB, mAnd, mOr, mNot, mIf, mChain, mFn, mCall, mIs, mFor, itemsT, itemsL, mYes, mPart, mNo, mSl, startD, oCmp, oI, oLt, oLe, oGt, oGe, oSub, oLen, oIx, isT, u1, at0, oEq_ss, hs', w1, hd]
            · intro a' b' c' h1
              cases h1
          | true =>
            constructor
            · intro h1
              cases h1
            · intro a' b' c' h1
              cases h1
              refine ⟨e6, ?_⟩
              simp [mTurn, mFun, mSeq, mRet, mDrop, mIfS, mNever, mSkip, mSet, mAsg, mPar2, mPar3, tgName, tgTup, tgCons, tgNil, mVar, mC, mNil, mCons, mTup, mLst, mOp, mUn, mB, mAnd, mOr, mNot, mIf, mChain, mFn, mCall, mIs, mFor, itemsT, itemsL, mYes, mPart, mNo, mSl, startD, oCmp, oI, oLt, oLe, oGt, oGe, oSub, oLen, oIx, isT, u1, at0, oEq_ss, hs', w1, hd, oAdd]
  | _ =>
    constructor
    · intro _
      rfl
    · intro a' b' c' h
      simp [itM, deedB] at h
theorem turns_ok {named : Int} {n : Nat} (ih : PMS named n) (hn : n ≤ 50) (m : Nat) (M : MM) (d : D) (e7 : Option D) : ∀ (xs : List D) (a b c : Nat) (e5 e6 : Option D), (∀ x ∈ xs, good n x = true) →
    (sumM (itM named (scM named n)) xs = none → forD (tgName 5) (mTurn (G (m + n + 4))) xs [some (.int named), some d, some (.int a), some (.int b), some (.int c), e5, e6, e7] M = some (.rt .non, M)) ∧
    (∀ a' b' c', sumM (itM named (scM named n)) xs = some (a', b', c') → ∃ e5' e6', forD (tgName 5) (mTurn (G (m + n + 4))) xs [some (.int named), some d, some (.int a), some (.int b), some (.int c), e5, e6, e7] M =
      some (.nx [some (.int named), some d, some (.int ((a + a' : Nat) : Int)), some (.int ((b + b' : Nat) : Int)), some (.int ((max c c' : Nat) : Int)), e5', e6', e7], M))
  | [], a, b, c, e5, e6, _ => by
    constructor
    · intro h
      cases h
    · intro a' b' c' h
      cases h
      refine ⟨e5, e6, ?_⟩
      simp [forD]
  | x :: xs, a, b, c, e5, e6, hx => by
    obtain ⟨t1, t2⟩ := turn_ok ih hn x (hx x List.mem_cons_self) m M d a b c e5 e6 e7
    have st : ∀ (o : Option (Out × MM)), mTurn (G (m + n + 4)) [some (.int named), some d, some (.int a), some (.int b), some (.int c), some x, e6, e7] M = o → forD (tgName 5) (mTurn (G (m + n + 4))) (x :: xs) [some (.int named), some d, some (.int a), some (.int b), some (.int c), e5, e6, e7] M =
        match o with
        | some (.nx r2, M2) => forD (tgName 5) (mTurn (G (m + n + 4))) xs r2 M2
        | some (.ct r2, M2) => forD (tgName 5) (mTurn (G (m + n + 4))) xs r2 M2
        | some (.bk r2, M2) => some (.nx r2, M2)
        | some (.rt d, M2) => some (.rt d, M2)
        | none => none := fun o h => by
      rw [← h]
      rfl
    have hs : sumM (itM named (scM named n)) (x :: xs) = match itM named (scM named n) x, sumM (itM named (scM named n)) xs with
      | some (a, b, c), some (a', b', c') => some (a + a', b + b', max c c')
      | _, _ => none := rfl
    rw [hs]
    cases h1 : itM named (scM named n) x with
    | none =>
      constructor
      · intro _
        rw [st _ (t1 h1)]
      · intro a' b' c' h
        simp at h
    | some v =>
      obtain ⟨a1, b1, c1⟩ := v
      obtain ⟨e6', q⟩ := t2 _ _ _ h1
      obtain ⟨i1, i2⟩ := turns_ok ih hn m M d e7 xs (a + a1) (b + b1) (max c c1) (some x) e6' fun y hy => hx y (List.mem_cons_of_mem _ hy)
      rw [st _ q]
      cases h2 : sumM (itM named (scM named n)) xs with
      | none => exact ⟨fun _ => i1 h2, fun a' b' c' h => by simp at h⟩
      | some v2 =>
        obtain ⟨a2, b2, c2⟩ := v2
        refine ⟨fun h => (by simp at h), fun a' b' c' h => ?_⟩
        cases h
        obtain ⟨f5, f6, q2⟩ := i2 _ _ _ h2
        refine ⟨f5, f6, ?_⟩
        rw [← Nat.add_assoc, ← Nat.add_assoc, ← Nat.max_assoc]
        exact q2
theorem g_measured {named : Int} : ∀ {n : Nat}, n ≤ 50 → PMS named n
  | 0, _ => by
    intro d hg m M
    show mFun 8 (B_Lmeasured (G (m + 3))) [.int named, d] M = _
    cases d with
    | tup xs => cases hg
    | _ => rfl
  | n + 1, hn => by
    intro d hg m M
    have ih := g_measured (named := named) (n := n) (by omega)
    show mFun 8 (B_Lmeasured (G (m + n + 4))) [.int named, d] M = _
    cases d with
    | tup xs =>
      obtain ⟨k, hk, _, hx⟩ := good_tup hg
      have hk' : k = n := by omega
      subst hk'
      obtain ⟨i1, i2⟩ := turns_ok ih (by omega) m M (.tup xs) none xs 0 0 0 none none hx
      have hs : scM named (k + 1) (.tup xs) = sumM (itM named (scM named k)) xs := rfl
      rw [hs, measured_eq]
      cases h : sumM (itM named (scM named k)) xs with
      | none =>
        have i1 := i1 h
        simp at i1
        simp [mFun, mSeq, mRet, mDrop, mIfS, mNever, mSkip, mSet, mAsg, mPar2, mPar3, tgName, tgTup, tgCons, tgNil, mVar, mC, mNil, mCons, mTup, mLst, mOp, mUn, mB, mAnd, mOr, mNot, mIf, mChain, mFn, mCall, mIs, mFor, itemsT, itemsL, mYes, mPart, mNo, mSl, startD, oCmp, oI, oLt, oLe, oGt, oGe, oSub, oLen, oIx, isT, i1, mD]
      | some v =>
        obtain ⟨a, b, c⟩ := v
        obtain ⟨f5, f6, q⟩ := i2 _ _ _ h
        simp at q
        simp [mFun, mSeq, mRet, mDrop, mIfS, mNever, mSkip, mSet, mAsg, mPar2, mPar3, tgName, tgTup, tgCons, tgNil, mVar, mC, mNil, mCons, mTup, mLst, mOp, mUn, mB, mAnd, mOr, mNot, mIf, mChain, mFn, mCall, mIs, mFor, itemsT, itemsL, mYes, mPart, mNo, mSl, startD, oCmp, oI, oLt, oLe, oGt, oGe, oSub, oLen, oIx, isT, q, mD]
    | _ => rfl
theorem g_judged {named : Int} {n : Nat} (hn : n ≤ 50) (d : D) (hg : good n d = true) (m : Nat) (M : MM) : G (m + n + 5) .Ljudged [.int named, d] M = some (.bl (scrB (scM named n d)), M) := by
  show mFun 3 (B_Ljudged (G (m + n + 4))) [.int named, d] M = _
  have h := g_measured (named := named) hn d hg m M
  cases hs : scM named n d with
  | none =>
    rw [hs] at h
    simp [mFun, mSeq, mRet, mDrop, mIfS, mNever, mSkip, mSet, mAsg, mPar2, mPar3, tgName, tgTup, tgCons, tgNil, mVar, mC, mNil, mCons, mTup, mLst, mOp, mUn, mB, mAnd, mOr, mNot, mIf, mChain, mFn, mCall, mIs, mFor, itemsT, itemsL, mYes, mPart, mNo, mSl, startD, oCmp, oI, oLt, oLe, oGt, oGe, oSub, oLen, oIx, isT, B_Ljudged, h, mD, oIsNot, oIs, isNon, scrB]
  | some v =>
    obtain ⟨a, b, c⟩ := v
    rw [hs] at h
    have e1 : decide ((a : Int) + b ≤ 30) = decide (a + b ≤ 30) := by
      rw [Bool.eq_iff_iff]
      simp only [decide_eq_true_eq]
      omega
    have e2 : decide ((c : Int) ≤ 4) = decide (c ≤ 4) := by
      rw [Bool.eq_iff_iff]
      simp only [decide_eq_true_eq]
      omega
    cases q : decide (a + b ≤ 30) <;> simp [mFun, mSeq, mRet, mDrop, mIfS, mNever, mSkip, mSet, mAsg, mPar2, mPar3, tgName, tgTup, tgCons, tgNil, mVar, mC, mNil, mCons, mTup, mLst, mOp, mUn, mB, mAnd, mOr, mNot, mIf, mChain, mFn, mCall, mIs, mFor, itemsT, itemsL, mYes, mPart, mNo, mSl, startD, oCmp, oI, oLt, oLe, oGt, oGe, oSub, oLen, oIx, isT, B_Ljudged, h, mD, oIsNot, oIs, isNon, scrB, at0, at1, at2, oAdd, e1, e2, q]
end MT

namespace MT
open PySem PySem.Spec PyProof.Rows L2 ML
theorem ask_of {s : Str} {h : D} (e : isS s h = true) (hs : (s == ("ask" : Str)) = false) : isS "ask" h = false := by
  cases h with
  | str x =>
    have : x = s := by simpa [isS] using e
    subst this
    exact hs
  | _ => rfl
theorem it_cases {named : Int} {sc : D → T3} {x : D} {a b c : Nat} (h : itM named sc x = some (a, b, c)) :
    (a = 1 ∧ b = 0 ∧ c = 0 ∧ ∃ h r, x = .tup (h :: r) ∧ isS "ask" h = false) ∨
    (∃ h p q y z a1 b1 c1 a2 b2 c2, x = .tup [h, p, q, y, z] ∧ isS "ask" h = true ∧ sc y = some (a1, b1, c1) ∧ sc z = some (a2, b2, c2) ∧ a = a1 + a2 ∧ b = b1 + b2 + 1 ∧ c = max c1 c2 + 1) := by
  unfold itM at h
  split at h
  · rename_i hd
    cases h
    refine .inl ⟨rfl, rfl, rfl, ?_⟩
    unfold deedB at hd
    split at hd
    · rename_i h' a b
      simp only [Bool.and_eq_true] at hd
      exact ⟨_, _, rfl, ask_of hd.1 (by decide)⟩
    · rename_i h' a b c
      simp only [Bool.and_eq_true] at hd
      refine ⟨_, _, rfl, ?_⟩
      cases ht : isS "takes" h' with
      | true => exact ask_of ht (by decide)
      | false =>
        rw [ht] at hd
        simp only [Bool.false_eq_true, if_false, Bool.and_eq_true] at hd
        exact ask_of hd.2.1 (by decide)
    · cases hd
  · split at h
    · rename_i h' p q y z
      split at h
      · rename_i hh
        split at h
        · rename_i a1 b1 c1 a2 b2 c2 h1 h2
          cases h
          simp only [Bool.and_eq_true] at hh
          exact .inr ⟨_, _, _, _, _, _, _, _, _, _, _, rfl, hh.1, h1, h2, rfl, rfl, rfl⟩
        · cases h
      · cases h
    · cases h
theorem sum_cons {f : D → T3} {x : D} {xs : List D} {a b c : Nat} (h : sumM f (x :: xs) = some (a, b, c)) :
    ∃ a1 b1 c1 a2 b2 c2, f x = some (a1, b1, c1) ∧ sumM f xs = some (a2, b2, c2) ∧ a = a1 + a2 ∧ b = b1 + b2 ∧ c = max c1 c2 := by
  unfold sumM at h
  split at h
  · rename_i a1 b1 c1 a2 b2 c2 h1 h2
    cases h
    exact ⟨_, _, _, _, _, _, h1, h2, rfl, rfl, rfl⟩
  · cases h
/-! ### counted -/
def cTurn (cl : Fid → FC) : FS := (mIfS (mB (mOp oEq (mOp oIx (mVar 3) (mC (.int 0))) (mC (.str "ask")))) (mSeq (mPar2 4 5 (mCons (mCall (cl .p_counted) (mCons (mOp oIx (mVar 3) (mC (.int 3))) mNil)) (mCons (mCall (cl .p_counted) (mCons (mOp oIx (mVar 3) (mC (.int 4))) mNil)) mNil)))
    (mSeq (mAsg (mOp oAdd (mOp oAdd (mVar 1) (mOp oIx (mVar 4) (mC (.int 0)))) (mOp oIx (mVar 5) (mC (.int 0)))) (tgName 1))
    (mAsg (mOp oAdd (mOp oAdd (mOp oAdd (mVar 2) (mOp oIx (mVar 4) (mC (.int 1)))) (mOp oIx (mVar 5) (mC (.int 1)))) (mC (.int 1))) (tgName 2)))) (mAsg (mOp oAdd (mVar 1) (mC (.int 1))) (tgName 1)))
theorem counted_eq (cl : Fid → FC) : B_p_counted cl = mSeq (mAsg (mC (.int 0)) (tgName 1)) (mSeq (mAsg (mC (.int 0)) (tgName 2)) (mSeq (mFor itemsT (mVar 0) (tgName 3) (cTurn cl)) (mRet (mTup (mCons (mVar 1) (mCons (mVar 2) mNil)))))) := rfl
def PCT (named : Int) (n : Nat) : Prop := ∀ (d : D), good n d = true → ∀ a b c, scM named n d = some (a, b, c) → ∀ (m : Nat) (M : MM), G (m + n + 1) .p_counted [d] M = some (.tup [.int a, .int b], M)
theorem count_turns {named : Int} {n : Nat} (ih : PCT named n) (hn : n ≤ 50) (m : Nat) (M : MM) (d : D) : ∀ (xs : List D) (a b a' b' c' : Nat) (e3 e4 e5 : Option D), (∀ x ∈ xs, good n x = true) → sumM (itM named (scM named n)) xs = some (a', b', c') →
    ∃ f3 f4 f5, forD (tgName 3) (cTurn (G (m + n + 1))) xs [some d, some (.int a), some (.int b), e3, e4, e5] M = some (.nx [some d, some (.int ((a + a' : Nat) : Int)), some (.int ((b + b' : Nat) : Int)), f3, f4, f5], M)
  | [], a, b, a', b', c', e3, e4, e5, _, h => by
    cases h
    exact ⟨e3, e4, e5, by simp [forD]⟩
  | x :: xs, a, b, a', b', c', e3, e4, e5, hx, h => by
    obtain ⟨a1, b1, c1, a2, b2, c2, h1, h2, rfl, rfl, rfl⟩ := sum_cons h
    have hg := hx x List.mem_cons_self
    rcases it_cases h1 with ⟨rfl, rfl, rfl, hh, r, rfl, ha⟩ | ⟨hh, p, q, y, z, a3, b3, c3, a4, b4, c4, rfl, ha, hy, hz, rfl, rfl, rfl⟩
    · obtain ⟨k, _, _, hxx⟩ := good_tup hg
      have e1 := oEq_str (M := M) (okD_of (hxx hh List.mem_cons_self) (by omega)) ok_ask
      obtain ⟨f3, f4, f5, q⟩ := count_turns ih hn m M d xs (a + 1) b a2 b2 c2 (some (.tup (hh :: r))) e4 e5 (fun y hy => hx y (List.mem_cons_of_mem _ hy)) h2
      refine ⟨f3, f4, f5, ?_⟩
      have i1 : a + (1 + a2) = a + 1 + a2 := by omega
      have i2 : b + (0 + b2) = b + b2 := by omega
      rw [i1, i2, ← q]
      simp [forD, cTurn, mFun, mSeq, mRet, mDrop, mIfS, mNever, mSkip, mSet, mAsg, mPar2, mPar3, tgName, tgTup, tgCons, tgNil, mVar, mC, mNil, mCons, mTup, mLst, mOp, mUn, mB, mAnd, mOr, mNot, mIf, mChain, mFn, mCall, mIs, mFor, itemsT, itemsL, mYes, mPart, mNo, mSl, startD, oCmp, oI, oLt, oLe, oGt, oGe, oSub, oLen, oIx, isT, at0, e1, ha, oAdd]
    · obtain ⟨k, hk, _, hxx⟩ := good_tup hg
      have e1 := oEq_str (M := M) (okD_of (hxx hh List.mem_cons_self) (by omega)) ok_ask
      have gy := ih y (good_mono (hxx y (by simp)) (by omega)) _ _ _ hy m M
      have gz := ih z (good_mono (hxx z (by simp)) (by omega)) _ _ _ hz m M
      obtain ⟨f3, f4, f5, q⟩ := count_turns ih hn m M d xs (a + (a3 + a4)) (b + (b3 + b4 + 1)) a2 b2 c2 (some (.tup [hh, p, q, y, z])) (some (.tup [.int a3, .int b3])) (some (.tup [.int a4, .int b4])) (fun y hy => hx y (List.mem_cons_of_mem _ hy)) h2
      refine ⟨f3, f4, f5, ?_⟩
      have j1 : a + (a3 + a4 + a2) = a + (a3 + a4) + a2 := by omega
      have j2 : b + (b3 + b4 + 1 + b2) = b + (b3 + b4 + 1) + b2 := by omega
      rw [j1, j2, ← q]
      have i1 : ((a + (a3 + a4) : Nat) : Int) = (a : Int) + a3 + a4 := by omega
      have i2 : ((b + (b3 + b4 + 1) : Nat) : Int) = (b : Int) + b3 + b4 + 1 := by omega
      rw [i1, i2]
      simp [forD, cTurn, mFun, mSeq, mRet, mDrop, mIfS, mNever, mSkip, mSet, mAsg, mPar2, mPar3, tgName, tgTup, tgCons, tgNil, mVar, mC, mNil, mCons, mTup, mLst, mOp, mUn, mB, mAnd, mOr, mNot, mIf, mChain, mFn, mCall, mIs, mFor, itemsT, itemsL, mYes, mPart, mNo, mSl, startD, oCmp, oI, oLt, oLe, oGt, oGe, oSub, oLen, oIx, isT, at0, at1, at3, at4, e1, ha, oAdd, gy, gz]
theorem g_counted {named : Int} : ∀ {n : Nat}, n ≤ 50 → PCT named n
  | 0, _ => by
    intro d hg a b c h
    cases h
  | n + 1, hn => by
    intro d hg a b c h m M
    cases d with
    | tup xs =>
      obtain ⟨k, hk, _, hx⟩ := good_tup hg
      have hk' : k = n := by omega
      subst hk'
      show mFun 6 (B_p_counted (G (m + k + 1))) [.tup xs] M = _
      obtain ⟨f3, f4, f5, q⟩ := count_turns (g_counted (named := named) (n := k) (by omega)) (by omega) m M (.tup xs) xs 0 0 a b c none none none hx h
      simp at q
      rw [counted_eq]
      simp [mFun, mSeq, mRet, mDrop, mIfS, mNever, mSkip, mSet, mAsg, mPar2, mPar3, tgName, tgTup, tgCons, tgNil, mVar, mC, mNil, mCons, mTup, mLst, mOp, mUn, mB, mAnd, mOr, mNot, mIf, mChain, mFn, mCall, mIs, mFor, itemsT, itemsL, mYes, mPart, mNo, mSl, startD, oCmp, oI, oLt, oLe, oGt, oGe, oSub, oLen, oIx, isT, q]
    | _ => cases h
/-! ### how many in all, in the law -/
def nTurn (cl : Fid → FC) : FS := (mAsg (mOp oAdd (mOp oAdd (mVar 1) (mC (.int 1))) (mIf (mOp oEq (mOp oIx (mVar 2) (mC (.int 0))) (mC (.str "ask"))) (mOp oAdd (mCall (cl .Lcount) (mCons (mOp oIx (mVar 2) (mC (.int 3))) mNil)) (mCall (cl .Lcount) (mCons (mOp oIx (mVar 2) (mC (.int 4))) mNil))) (mC (.int 0)))) (tgName 1))
theorem lcount_eq (cl : Fid → FC) : B_Lcount cl = mSeq (mAsg (mC (.int 0)) (tgName 1)) (mSeq (mFor itemsT (mVar 0) (tgName 2) (nTurn cl)) (mRet (mVar 1))) := rfl
def PLC (named : Int) (n : Nat) : Prop := ∀ (d : D), good n d = true → ∀ a b c, scM named n d = some (a, b, c) → ∀ (m : Nat) (M : MM), G (m + n + 1) .Lcount [d] M = some (.int ((a + b : Nat) : Int), M)
theorem n_turns {named : Int} {n : Nat} (ih : PLC named n) (hn : n ≤ 50) (m : Nat) (M : MM) (d : D) : ∀ (xs : List D) (a a' b' c' : Nat) (e2 : Option D), (∀ x ∈ xs, good n x = true) → sumM (itM named (scM named n)) xs = some (a', b', c') →
    ∃ f2, forD (tgName 2) (nTurn (G (m + n + 1))) xs [some d, some (.int a), e2] M = some (.nx [some d, some (.int ((a + (a' + b') : Nat) : Int)), f2], M)
  | [], a, a', b', c', e2, _, h => by
    cases h
    exact ⟨e2, by simp [forD]⟩
  | x :: xs, a, a', b', c', e2, hx, h => by
    obtain ⟨a1, b1, c1, a2, b2, c2, h1, h2, rfl, rfl, rfl⟩ := sum_cons h
    have hg := hx x List.mem_cons_self
    rcases it_cases h1 with ⟨rfl, rfl, rfl, hh, r, rfl, ha⟩ | ⟨hh, p, q, y, z, a3, b3, c3, a4, b4, c4, rfl, ha, hy, hz, rfl, rfl, rfl⟩
    · obtain ⟨k, _, _, hxx⟩ := good_tup hg
      have e1 := oEq_str (M := M) (okD_of (hxx hh List.mem_cons_self) (by omega)) ok_ask
      obtain ⟨f2, q⟩ := n_turns ih hn m M d xs (a + 1) a2 b2 c2 (some (.tup (hh :: r))) (fun y hy => hx y (List.mem_cons_of_mem _ hy)) h2
      refine ⟨f2, ?_⟩
      have i1 : ((a + (1 + a2 + (0 + b2)) : Nat) : Int) = ((a + 1 + (a2 + b2) : Nat) : Int) := by omega
      rw [i1, ← q]
      simp [forD, nTurn, mFun, mSeq, mRet, mDrop, mIfS, mNever, mSkip, mSet, mAsg, mPar2, mPar3, tgName, tgTup, tgCons, tgNil, mVar, mC, mNil, mCons, mTup, mLst, mOp, mUn, mB, mAnd, mOr, mNot, mIf, mChain, mFn, mCall, mIs, mFor, itemsT, itemsL, mYes, mPart, mNo, mSl, startD, oCmp, oI, oLt, oLe, oGt, oGe, oSub, oLen, oIx, isT, at0, e1, ha, oAdd]
    · obtain ⟨k, hk, _, hxx⟩ := good_tup hg
      have e1 := oEq_str (M := M) (okD_of (hxx hh List.mem_cons_self) (by omega)) ok_ask
      have gy := ih y (good_mono (hxx y (by simp)) (by omega)) _ _ _ hy m M
      have gz := ih z (good_mono (hxx z (by simp)) (by omega)) _ _ _ hz m M
      obtain ⟨f2, q⟩ := n_turns ih hn m M d xs (a + 1 + ((a3 + b3) + (a4 + b4))) a2 b2 c2 (some (.tup [hh, p, q, y, z])) (fun y hy => hx y (List.mem_cons_of_mem _ hy)) h2
      refine ⟨f2, ?_⟩
      have i1 : ((a + (a3 + a4 + a2 + (b3 + b4 + 1 + b2)) : Nat) : Int) = ((a + 1 + ((a3 + b3) + (a4 + b4)) + (a2 + b2) : Nat) : Int) := by omega
      rw [i1, ← q]
      have i2 : ((a + 1 + ((a3 + b3) + (a4 + b4)) : Nat) : Int) = (a : Int) + 1 + ((a3 + b3 : Nat) + (a4 + b4 : Nat)) := by omega
      rw [i2]
      simp only [forD, nTurn, mAsg, mOp, mVar, mC, mIf, mCall, mCons, mNil, tgName, List.getElem?_cons_zero, List.getElem?_cons_succ, List.set_cons_zero, List.set_cons_succ, oIx, at0, at3, at4, e1, ha, oAdd, gy, gz]
theorem g_lcount {named : Int} : ∀ {n : Nat}, n ≤ 50 → PLC named n
  | 0, _ => by
    intro d hg a b c h
    cases h
  | n + 1, hn => by
    intro d hg a b c h m M
    cases d with
    | tup xs =>
      obtain ⟨k, hk, _, hx⟩ := good_tup hg
      have hk' : k = n := by omega
      subst hk'
      show mFun 3 (B_Lcount (G (m + k + 1))) [.tup xs] M = _
      obtain ⟨f2, q⟩ := n_turns (g_lcount (named := named) (n := k) (by omega)) (by omega) m M (.tup xs) xs 0 a b c none hx h
      rw [lcount_eq]
      simp at q
      simp [mFun, mSeq, mRet, mDrop, mIfS, mNever, mSkip, mSet, mAsg, mPar2, mPar3, tgName, tgTup, tgCons, tgNil, mVar, mC, mNil, mCons, mTup, mLst, mOp, mUn, mB, mAnd, mOr, mNot, mIf, mChain, mFn, mCall, mIs, mFor, itemsT, itemsL, mYes, mPart, mNo, mSl, startD, oCmp, oI, oLt, oLe, oGt, oGe, oSub, oLen, oIx, isT, q]
    | _ => cases h
/-! ### deepest -/
def PDP (named : Int) (n : Nat) : Prop := ∀ (d : D), good n d = true → ∀ a b c, scM named n d = some (a, b, c) → a + b ≤ 900 → ∀ (m : Nat) (M : MM), G (m + n + 1) .p_deepest [d] M = some (.int c, M)
def dep (o : T3) : Nat := match o with
  | some (_, _, c) => c
  | none => 0
def askH : D → Bool
  | .tup (h :: _) => isS "ask" h
  | _ => false
theorem max_eq {f : D → T3} {p : D → Bool} : ∀ {xs : List D} {a b c m : Nat}, sumM f xs = some (a, b, c) → (∀ x ∈ xs, p x = false → dep (f x) = 0) → maxL m ((xs.filter p).map fun x => (dep (f x) : Int)) = ((max m c : Nat) : Int)
  | [], a, b, c, m, h, _ => by
    cases h
    simp [maxL]
  | x :: xs, a, b, c, m, h, hp => by
    obtain ⟨a1, b1, c1, a2, b2, c2, h1, h2, rfl, rfl, rfl⟩ := sum_cons h
    have hd : dep (f x) = c1 := by rw [h1]; rfl
    cases hq : p x with
    | false =>
      have : c1 = 0 := by rw [← hd]; exact hp x List.mem_cons_self hq
      subst this
      rw [List.filter_cons_of_neg (by simp [hq]), max_eq h2 fun y hy => hp y (List.mem_cons_of_mem _ hy)]
      simp
    | true =>
      rw [List.filter_cons_of_pos hq, List.map_cons, hd]
      show maxL (if (c1 : Int) > m then (c1 : Int) else m) _ = _
      have : (if (c1 : Int) > m then (c1 : Int) else (m : Int)) = ((max m c1 : Nat) : Int) := by
        split <;> omega
      rw [this, max_eq h2 fun y hy => hp y (List.mem_cons_of_mem _ hy), Nat.max_assoc]
theorem intsOf_map (g : D → Int) : ∀ xs : List D, intsOf (xs.map fun d => .int (g d)) = some (xs.map g)
  | [] => rfl
  | x :: xs => by
    show (match intsOf (xs.map fun d => .int (g d)) with | some bs => some (g x :: bs) | none => none) = _
    rw [intsOf_map g xs]
    rfl
theorem sum_mem {f : D → T3} : ∀ {xs : List D} {a b c : Nat}, sumM f xs = some (a, b, c) → ∀ x ∈ xs, ∃ a1 b1 c1, f x = some (a1, b1, c1) ∧ a1 ≤ a ∧ b1 ≤ b
  | [], _, _, _, _, x, hx => by cases hx
  | y :: ys, a, b, c, h, x, hx => by
    obtain ⟨a1, b1, c1, a2, b2, c2, h1, h2, rfl, rfl, rfl⟩ := sum_cons h
    rcases List.mem_cons.mp hx with rfl | hx
    · exact ⟨a1, b1, c1, h1, by omega, by omega⟩
    · obtain ⟨a3, b3, c3, h3, i1, i2⟩ := sum_mem h2 x hx
      exact ⟨a3, b3, c3, h3, by omega, by omega⟩
theorem g_deepest {named : Int} : ∀ {n : Nat}, n ≤ 50 → PDP named n
  | 0, _ => by
    intro d hg a b c h
    cases h
  | n + 1, hn => by
    intro d hg a b c h hab m M
    cases d with
    | tup xs =>
      obtain ⟨k, hk, hlen, hx⟩ := good_tup hg
      have hk' : k = n := by omega
      subst hk'
      have ih := g_deepest (named := named) (n := k) (by omega)
      show mFun 2 (B_p_deepest (G (m + k + 1))) [.tup xs] M = _
      have h3 : lcD (tgName 1) (mB (mOp oEq (mOp oIx (mVar 1) (mC (.int 0))) (mC (.str "ask")))) (mOp oAdd (mC (.int 1)) (mFn oMax (mCons (mCall (G (m + k + 1) .p_deepest) (mCons (mOp oIx (mVar 1) (mC (.int 3))) mNil)) (mCons (mCall (G (m + k + 1) .p_deepest) (mCons (mOp oIx (mVar 1) (mC (.int 4))) mNil)) mNil))))
          (wipeD [some (D.tup xs), none] [1]) xs M = some ((xs.filter askH).map fun x => .int (dep (itM named (scM named k) x)), M) := by
        refine lcD_filter _ _ fun x hxm => ⟨_, rfl, ?_, ?_⟩
        · obtain ⟨a1, b1, c1, h1, _, _⟩ := sum_mem h x hxm
          have hg' := hx x hxm
          rcases it_cases h1 with ⟨_, _, _, hh, r, rfl, ha⟩ | ⟨hh, p, q, y, z, a3, b3, c3, a4, b4, c4, rfl, ha, _⟩
          · obtain ⟨k', _, _, hxx⟩ := good_tup hg'
            have e1 := oEq_str (M := M) (okD_of (hxx hh List.mem_cons_self) (by omega)) ok_ask
            simp [wipeD, mFun, mSeq, mRet, mDrop, mIfS, mNever, mSkip, mSet, mAsg, mPar2, mPar3, tgName, tgTup, tgCons, tgNil, mVar, mC, mNil, mCons, mTup, mLst, mOp, mUn, mB, mAnd, mOr, mNot, mIf, mChain, mFn, mCall, mIs, mFor, itemsT, itemsL, mYes, mPart, mNo, mSl, startD, oCmp, oI, oLt, oLe, oGt, oGe, oSub, oLen, oIx, isT, at0, e1, askH]
          · obtain ⟨k', _, _, hxx⟩ := good_tup hg'
            have e1 := oEq_str (M := M) (okD_of (hxx hh List.mem_cons_self) (by omega)) ok_ask
            simp [wipeD, mFun, mSeq, mRet, mDrop, mIfS, mNever, mSkip, mSet, mAsg, mPar2, mPar3, tgName, tgTup, tgCons, tgNil, mVar, mC, mNil, mCons, mTup, mLst, mOp, mUn, mB, mAnd, mOr, mNot, mIf, mChain, mFn, mCall, mIs, mFor, itemsT, itemsL, mYes, mPart, mNo, mSl, startD, oCmp, oI, oLt, oLe, oGt, oGe, oSub, oLen, oIx, isT, at0, e1, askH]
        · intro hask
          obtain ⟨a1, b1, c1, h1, l1, l2⟩ := sum_mem h x hxm
          have hg' := hx x hxm
          rcases it_cases h1 with ⟨_, _, _, hh, r, rfl, ha⟩ | ⟨hh, p, q, y, z, a3, b3, c3, a4, b4, c4, rfl, ha, hy, hz, rfl, rfl, rfl⟩
          · rw [show askH (.tup (hh :: r)) = isS "ask" hh from rfl, ha] at hask
            cases hask
          · obtain ⟨k', _, _, hxx⟩ := good_tup hg'
            have gy := ih y (good_mono (hxx y (by simp)) (by omega)) _ _ _ hy (by omega) m M
            have gz := ih z (good_mono (hxx z (by simp)) (by omega)) _ _ _ hz (by omega) m M
            have hd : dep (itM named (scM named k) (.tup [hh, p, q, y, z])) = max c3 c4 + 1 := by rw [h1]; rfl
            have i1 : ((max c3 c4 + 1 : Nat) : Int) = 1 + (if (c4 : Int) > c3 then (c4 : Int) else c3) := by split <;> omega
            rw [hd, i1]
            simp [wipeD, mFun, mSeq, mRet, mDrop, mIfS, mNever, mSkip, mSet, mAsg, mPar2, mPar3, tgName, tgTup, tgCons, tgNil, mVar, mC, mNil, mCons, mTup, mLst, mOp, mUn, mB, mAnd, mOr, mNot, mIf, mChain, mFn, mCall, mIs, mFor, itemsT, itemsL, mYes, mPart, mNo, mSl, startD, oCmp, oI, oLt, oLe, oGt, oGe, oSub, oLen, oIx, isT, at3, at4, gy, gz, oMax, oAdd]
      have hl2 : (xs.filter askH).length + 1 ≤ 1000 := by
        have := len_sum (fun y _ a b c hh => itM_pos hh) h
        have := List.length_filter_le askH xs
        omega
      have hl3 : 1 + (xs.filter askH).length ≤ 1000 := by omega
      have hm := max_eq (p := askH) (m := 0) h fun x hxm hf => by
        obtain ⟨a1, b1, c1, h1, _, _⟩ := sum_mem h x hxm
        rcases it_cases h1 with ⟨rfl, rfl, rfl, _⟩ | ⟨hh, p, q, y, z, a3, b3, c3, a4, b4, c4, rfl, ha, _⟩
        · rw [h1]
          rfl
        · rw [show askH (.tup [hh, p, q, y, z]) = isS "ask" hh from rfl, ha] at hf
          cases hf
      have hi := intsOf_map (fun x => (dep (itM named (scM named k) x) : Int)) (xs.filter askH)
      have hi2 : intsOf (D.int 0 :: ((xs.filter askH).map fun x => D.int (dep (itM named (scM named k) x)))) = some (0 :: ((xs.filter askH).map fun x => (dep (itM named (scM named k) x) : Int))) := by
        show (match intsOf _ with | some bs => some ((0 : Int) :: bs) | none => none) = _
        rw [hi]
      have hm' : maxL 0 ((xs.filter askH).map fun x => (dep (itM named (scM named k) x) : Int)) = (c : Int) := by
        have := hm
        simpa using this
      have hL : (mLc itemsT (mVar 0) (tgName 1) (mB (mOp oEq (mOp oIx (mVar 1) (mC (.int 0))) (mC (.str "ask")))) (mOp oAdd (mC (.int 1)) (mFn oMax (mCons (mCall (G (m + k + 1) .p_deepest) (mCons (mOp oIx (mVar 1) (mC (.int 3))) mNil)) (mCons (mCall (G (m + k + 1) .p_deepest) (mCons (mOp oIx (mVar 1) (mC (.int 4))) mNil)) mNil)))) [1]) [some (D.tup xs), none] M =
          some (.lst ((xs.filter askH).map fun x => .int (dep (itM named (scM named k) x))), M) := by
        show (if xs.length ≤ 1000 then match lcD _ _ _ (wipeD [some (D.tup xs), none] [1]) xs M with
          | some (ys, M2) => some (D.lst ys, M2)
          | none => none
          else none) = _
        rw [if_pos hlen, h3]
      unfold B_p_deepest
      simp only [mFun, startD, List.map_cons, List.map_nil, List.length_cons, List.length_nil, Nat.zero_add, Nat.reduceSub, List.replicate_succ, List.replicate_zero, List.cons_append, List.nil_append, mRet, mFn, mCons, mOp, hL, mLst, mC, mNil, oAdd, List.length_map, hl3, if_true, oMax, hi2, hm']
    | _ => cases h
theorem g_count_deeds {named : Int} (hN : namedB named) {n : Nat} (hn : n ≤ 50) (d : D) (hg : good n d = true) (a b c : Nat) (h : scM named n d = some (a, b, c)) (hs : scrB (some (a, b, c)) = true) (m : Nat) (M : MM) : G (m + 2 * n + 9) .p_count_deeds [.int named, d] M = some (.tup [.int a, .int b], M) := by
  show mFun 2 (B_p_count_deeds (G (m + 2 * n + 8))) [.int named, d] M = _
  have h1 := g_check_script hN (by omega) d hg (by rw [h]; exact hs) m M
  have h2 : G (m + 2 * n + 8) .p_counted [d] M = some (.tup [.int a, .int b], M) := by
    have := g_counted (named := named) hn d hg a b c h (m + n + 7) M
    rw [show m + n + 7 + n + 1 = m + 2 * n + 8 by omega] at this
    exact this
  simp [mFun, mSeq, mRet, mDrop, mIfS, mNever, mSkip, mSet, mAsg, mPar2, mPar3, tgName, tgTup, tgCons, tgNil, mVar, mC, mNil, mCons, mTup, mLst, mOp, mUn, mB, mAnd, mOr, mNot, mIf, mChain, mFn, mCall, mIs, mFor, itemsT, itemsL, mYes, mPart, mNo, mSl, startD, oCmp, oI, oLt, oLe, oGt, oGe, oSub, oLen, oIx, isT, B_p_count_deeds, h1, h2]
theorem g_depth_of {named : Int} (hN : namedB named) {n : Nat} (hn : n ≤ 50) (d : D) (hg : good n d = true) (a b c : Nat) (h : scM named n d = some (a, b, c)) (hs : scrB (some (a, b, c)) = true) (m : Nat) (M : MM) : G (m + 2 * n + 9) .p_depth_of [.int named, d] M = some (.int c, M) := by
  show mFun 2 (B_p_depth_of (G (m + 2 * n + 8))) [.int named, d] M = _
  have h1 := g_check_script hN (by omega) d hg (by rw [h]; exact hs) m M
  have hab : a + b ≤ 900 := by
    simp [scrB] at hs
    omega
  have h2 : G (m + 2 * n + 8) .p_deepest [d] M = some (.int c, M) := by
    have := g_deepest (named := named) hn d hg a b c h hab (m + n + 7) M
    rw [show m + n + 7 + n + 1 = m + 2 * n + 8 by omega] at this
    exact this
  simp [mFun, mSeq, mRet, mDrop, mIfS, mNever, mSkip, mSet, mAsg, mPar2, mPar3, tgName, tgTup, tgCons, tgNil, mVar, mC, mNil, mCons, mTup, mLst, mOp, mUn, mB, mAnd, mOr, mNot, mIf, mChain, mFn, mCall, mIs, mFor, itemsT, itemsL, mYes, mPart, mNo, mSl, startD, oCmp, oI, oLt, oLe, oGt, oGe, oSub, oLen, oIx, isT, B_p_depth_of, h1, h2]
end MT

namespace MT
open PySem PySem.Spec PyProof.Rows L2 ML
/-! ### what is rolled -/
def Cup (M : MM) : Prop := ∃ a b : Int, M = [[.int a, .int b]] ∧ 0 ≤ a ∧ 0 ≤ b ∧ b < 1099511627776
theorem g_roll (n : Nat) {M : MM} (h : Cup M) (k : Int) (h1 : 1 ≤ k) (h2 : k < 1000000) : ∃ r M', G (n + 1) .Lroll [.mu 0, .int k] M = some (.int r, M') ∧ 0 ≤ r ∧ r < k ∧ Cup M' := by
  obtain ⟨a, b, rfl, ha, hb, hb2⟩ := h
  have e0 : atI [D.int a, D.int b] 0 = some (.int a) := at0 _ _
  have k0 : (0 : Int) < k := by omega
  have k1 : k < 1073741824 := by omega
  by_cases h : 0 < a
  · refine ⟨a % k, [[.int (a / k), .int b]], ?_, Int.emod_nonneg _ (by omega), Int.emod_lt_of_pos _ k0, _, _, rfl, Int.ediv_nonneg ha (by omega), hb, hb2⟩
    show mFun 4 (B_Lroll (G n)) [.mu 0, .int k] [[.int a, .int b]] = _
    simp [mFun, mSeq, mRet, mDrop, mIfS, mNever, mSkip, mSet, mAsg, mPar2, mPar3, tgName, tgTup, tgCons, tgNil, mVar, mC, mNil, mCons, mTup, mLst, mOp, mUn, mB, mAnd, mOr, mNot, mIf, mChain, mFn, mCall, mIs, mFor, itemsT, itemsL, mYes, mPart, mNo, mSl, startD, oCmp, oI, oLt, oLe, oGt, oGe, oSub, oLen, oIx, isT, B_Lroll, e0, h, oMod, oInt, k0, k1, oDiv, mStore, ixN]
  · let b' := (b * 30983 + 7933) % 2147483563
    have hb0 : 0 ≤ b' := Int.emod_nonneg _ (by decide)
    have hb1 : b' < 2147483563 := Int.emod_lt_of_pos _ (by decide)
    refine ⟨(b' * (b' + 197) % 2147483587 / 773) % k, [[.int a, .int b']], ?_, Int.emod_nonneg _ (by omega), Int.emod_lt_of_pos _ k0, _, _, rfl, ha, hb0, by omega⟩
    show mFun 4 (B_Lroll (G n)) [.mu 0, .int k] [[.int a, .int b]] = _
    have e1 : atI [D.int a, D.int b] 1 = some (.int b) := at1 _ _ _
    have e2 : atI [D.int a, D.int b'] 1 = some (.int b') := at1 _ _ _
    have m1 : b'.natAbs < 18446744073709551616 := by omega
    have eb : (b * 30983 + 7933) % 2147483563 = b' := rfl
    simp only [mFun, B_Lroll, mSeq, mIfS, mB, mOp, mVar, mC, mSkip, mStore, mFn, mCons, mNil, mAsg, tgName, mRet, startD, List.map_cons, List.map_nil, List.length_cons, List.length_nil, Nat.zero_add, Nat.reduceSub, Nat.reduceAdd, List.replicate_succ, List.replicate_zero, List.cons_append, List.nil_append,
      List.getElem?_cons_zero, List.getElem?_cons_succ, List.set_cons_zero, List.set_cons_succ, oIx, Option.bind_some, e0, e1, oGt, oCmp, oI, decide_eq_false h, oInt, oAdd, oMul, oMod, eb]
    rw [if_pos (show b.natAbs < 18446744073709551616 ∨ (30983 : Int).natAbs < 18446744073709551616 from Or.inr (by decide))]
    simp only [eb, if_true, show ((0 : Int) < 2147483563) = True from eq_true (by decide)]
    have ix : ixN [D.int a, D.int b].length 1 = some 1 := rfl
    simp only [ix, List.set_cons_succ, List.set_cons_zero, List.getElem?_cons_zero, Option.bind_some, e2, eb]
    rw [if_pos (Or.inl m1)]
    simp only [if_true, show ((0 : Int) < 2147483587) = True from eq_true (by decide), oDiv, oI, List.getElem?_cons_zero, List.getElem?_cons_succ]
    rw [if_pos (show (0 : Int) < 773 ∧ (773 : Int) < 1073741824 by decide)]
    simp only [k0, if_true]
theorem cup_roll (n : Nat) {M : MM} (h : Cup M) (k : Nat) (h1 : 1 ≤ k) (h2 : k < 1000000) : ∃ (r : Nat) (M' : MM), G (n + 1) .Lroll [.mu 0, .int k] M = some (.int r, M') ∧ r < k ∧ Cup M' := by
  obtain ⟨r, M', e, r0, r1, c⟩ := g_roll n h k (by omega) (by omega)
  refine ⟨r.toNat, M', ?_, by omega, c⟩
  rw [e, Int.toNat_of_nonneg r0]
theorem cup_some (n : Nat) {M : MM} (h : Cup M) (xs : List D) (h1 : xs ≠ []) (h2 : xs.length < 1000000) : ∃ d M', G (n + 2) .Lsome [.mu 0, .lst xs] M = some (d, M') ∧ d ∈ xs ∧ Cup M' := by
  have hl : 1 ≤ xs.length := by
    cases xs with
    | nil => exact absurd rfl h1
    | cons x xs => simp
  obtain ⟨r, M', e, r1, c⟩ := cup_roll n h xs.length hl h2
  refine ⟨xs[r], M', ?_, List.getElem_mem r1, c⟩
  show mFun 2 (B_Lsome (G (n + 1))) [.mu 0, .lst xs] M = _
  have e1 : atI xs (r : Int) = some xs[r] := atI_nat (List.getElem?_eq_getElem r1)
  simp [mFun, mSeq, mRet, mDrop, mIfS, mNever, mSkip, mSet, mAsg, mPar2, mPar3, tgName, tgTup, tgCons, tgNil, mVar, mC, mNil, mCons, mTup, mLst, mOp, mUn, mB, mAnd, mOr, mNot, mIf, mChain, mFn, mCall, mIs, mFor, itemsT, itemsL, mYes, mPart, mNo, mSl, startD, oCmp, oI, oLt, oLe, oGt, oGe, oSub, oLen, oIx, isT, B_Lsome, e, e1]
theorem cup_named (n : Nat) {M : MM} (h : Cup M) : ∃ (k : Int) (M' : MM), G (n + 3) .Lnamed [.mu 0] M = some (.int k, M') ∧ namedB k ∧ Cup M' := by
  obtain ⟨d, M', e, hd, c⟩ := cup_some n h [.int 1, .int 1, .int 2, .int 2, .int 2, .int 2, .int 2, .int 3] (by simp) (by simp)
  have : ∃ k : Int, d = .int k ∧ namedB k := by
    simp only [List.mem_cons, List.not_mem_nil, or_false] at hd
    rcases hd with rfl | rfl | rfl | rfl | rfl | rfl | rfl | rfl
    all_goals exact ⟨_, rfl, by decide, by decide⟩
  obtain ⟨k, rfl, hk⟩ := this
  refine ⟨k, M', ?_, hk, c⟩
  show mFun 1 (B_Lnamed (G (n + 2))) [.mu 0] M = _
  simp [mFun, mSeq, mRet, mDrop, mIfS, mNever, mSkip, mSet, mAsg, mPar2, mPar3, tgName, tgTup, tgCons, tgNil, mVar, mC, mNil, mCons, mTup, mLst, mOp, mUn, mB, mAnd, mOr, mNot, mIf, mChain, mFn, mCall, mIs, mFor, itemsT, itemsL, mYes, mPart, mNo, mSl, startD, oCmp, oI, oLt, oLe, oGt, oGe, oSub, oLen, oIx, isT, B_Lnamed, e]
/-- a comprehension whose parts change the cup -/
theorem lcD_cup {tg : FT} {e : FE} {r : En} (P : D → Prop) : ∀ {ds : List D}, (∀ d ∈ ds, ∀ M, Cup M → ∃ r1 y M', tg d r = some r1 ∧ e r1 M = some (y, M') ∧ P y ∧ Cup M') → ∀ {M : MM}, Cup M →
    ∃ ys M', lcD tg mYes e r ds M = some (ys, M') ∧ ys.length = ds.length ∧ (∀ y ∈ ys, P y) ∧ Cup M'
  | [], _, M, c => ⟨[], M, rfl, rfl, fun _ h => (by cases h), c⟩
  | d :: ds, h, M, c => by
    obtain ⟨r1, y, M1, h1, h2, hp, c1⟩ := h d List.mem_cons_self M c
    obtain ⟨ys, M2, h3, hl, hq, c2⟩ := lcD_cup P (fun d hd => h d (List.mem_cons_of_mem _ hd)) c1
    refine ⟨y :: ys, M2, ?_, by simp [hl], fun z hz => ?_, c2⟩
    · show (match tg d r with | some r1 => _ | none => _) = _
      rw [h1]
      simp only [mYes]
      rw [h2]
      simp only []
      rw [h3]
    · rcases List.mem_cons.mp hz with rfl | hz
      · exact hp
      · exact hq z hz
def bit (d : D) : Prop := ∃ i : Int, d = .int i ∧ 0 ≤ i ∧ i ≤ 1
theorem bit_btw {d : D} (h : bit d) : btw d 0 1 = true := by
  obtain ⟨i, rfl, h1, h2⟩ := h
  simp [btw, h1, h2]
theorem answ_bits {xs : List D} {k : Nat} (h : ∀ y ∈ xs, bit y) (hl : xs.length = k) : answ (.tup xs) k = true := by
  simp only [answ, hl, beq_self_eq_true, Bool.true_and, List.all_eq_true]
  exact fun y hy => bit_btw (h y hy)
theorem good_bits {xs : List D} (h : ∀ y ∈ xs, bit y) (hl : xs.length ≤ 1000) : good 1 (.tup xs) = true := by
  simp only [good, Bool.and_eq_true, List.all_eq_true, decide_eq_true_eq]
  refine ⟨hl, fun y hy => ?_⟩
  obtain ⟨i, rfl, _⟩ := h y hy
  rfl
theorem rng1_ok (k : Nat) (h : k ≤ 100000) : rng1 [.int (k : Int)] = some (0, (k : Int)) := by
  exact if_pos (show (k : Int).natAbs ≤ 1000000 by omega)
theorem cup_answers (n : Nat) {M : MM} (h : Cup M) (k : Nat) (hk : k ≤ 100) : ∃ xs M', G (n + 2) .Lanswers [.mu 0, .int k] M = some (.tup xs, M') ∧ xs.length = k ∧ (∀ y ∈ xs, bit y) ∧ Cup M' := by
  have q : ∀ d ∈ rangeD 0 k, ∀ M, Cup M → ∃ r1 y M', tgName 2 d (wipeD [some (.mu 0), some (.int k), none] [2]) = some r1 ∧ (mCall (G (n + 1) .Lroll) (mCons (mVar 0) (mCons (mC (.int 2)) mNil))) r1 M = some (y, M') ∧ bit y ∧ Cup M' := fun d _ M c => by
    obtain ⟨r, M', e, r0, r1, c⟩ := g_roll n c 2 (by decide) (by decide)
    refine ⟨_, .int r, M', rfl, ?_, ⟨r, rfl, r0, by omega⟩, c⟩
    simp only [mCall, mCons, mVar, mC, mNil, wipeD, List.set_cons_succ, List.set_cons_zero, List.getElem?_cons_zero]
    exact e
  obtain ⟨ys, M', h1, hl, hq, c⟩ := lcD_cup bit q h
  rw [rangeD_len] at hl
  refine ⟨ys, M', ?_, hl, hq, c⟩
  show mFun 3 (B_Lanswers (G (n + 1))) [.mu 0, .int k] M = _
  generalize G (n + 1) = cl at h1 ⊢
  have e0 : ((k : Int) - 0).toNat = k := by omega
  have hL : (mLcR rng1 (mCons (mVar 1) mNil) (tgName 2) mYes (mCall (cl .Lroll) (mCons (mVar 0) (mCons (mC (.int 2)) mNil))) [2]) [some (.mu 0), some (.int k), none] M = some (.lst ys, M') := by
    have r1 := rng1_ok k (by omega)
    have r2 : (mCons (mVar 1) mNil) [some (.mu 0), some (.int k), none] M = some ([.int (k : Int)], M) := rfl
    unfold mLcR
    rw [r2]
    simp only [r1, e0]
    rw [if_pos (show k ≤ 1000 by omega), h1]
  unfold B_Lanswers
  simp only [mFun, startD, List.map_cons, List.map_nil, List.length_cons, List.length_nil, Nat.zero_add, Nat.reduceAdd, Nat.reduceSub, List.replicate_succ, List.replicate_zero, List.cons_append, List.nil_append, mRet, mFn, mCons, hL, mNil, oTuple]
/-- another named one -/
def isNo (r : Int) : D → Bool
  | .int i => !(i == r)
  | _ => false
theorem others {named r : Nat} (hn : 2 ≤ named) (hn3 : named ≤ 3) (hr : r < named) : ∃ ys, ((rangeD 0 named).filter (isNo r)) = ys ∧ ys ≠ [] ∧ ys.length ≤ 3 ∧ ∀ y ∈ ys, ∃ j : Nat, y = .int j ∧ j < named ∧ j ≠ r := by
  have hc : (named = 2 ∧ (r = 0 ∨ r = 1)) ∨ (named = 3 ∧ (r = 0 ∨ r = 1 ∨ r = 2)) := by omega
  rcases hc with ⟨rfl, rfl | rfl⟩ | ⟨rfl, rfl | rfl | rfl⟩
  · exact ⟨[.int 1], rfl, by simp, by simp, fun y hy => ⟨1, by simpa using hy, by decide, by decide⟩⟩
  · exact ⟨[.int 0], rfl, by simp, by simp, fun y hy => ⟨0, by simpa using hy, by decide, by decide⟩⟩
  · refine ⟨[.int 1, .int 2], rfl, by simp, by simp, fun y hy => ?_⟩
    simp only [List.mem_cons, List.not_mem_nil, or_false] at hy
    rcases hy with rfl | rfl
    · exact ⟨1, rfl, by decide, by decide⟩
    · exact ⟨2, rfl, by decide, by decide⟩
  · refine ⟨[.int 0, .int 2], rfl, by simp, by simp, fun y hy => ?_⟩
    simp only [List.mem_cons, List.not_mem_nil, or_false] at hy
    rcases hy with rfl | rfl
    · exact ⟨0, rfl, by decide, by decide⟩
    · exact ⟨2, rfl, by decide, by decide⟩
  · refine ⟨[.int 0, .int 1], rfl, by simp, by simp, fun y hy => ?_⟩
    simp only [List.mem_cons, List.not_mem_nil, or_false] at hy
    rcases hy with rfl | rfl
    · exact ⟨0, rfl, by decide, by decide⟩
    · exact ⟨1, rfl, by decide, by decide⟩
end MT

namespace MT
open PySem PySem.Spec PyProof.Rows L2 ML
structure Gen (cl : Fid → FC) : Prop where
  roll : ∀ {M : MM}, Cup M → ∀ k : Nat, 1 ≤ k → k < 1000000 → ∃ (r : Nat) (M' : MM), cl .Lroll [.mu 0, .int k] M = some (.int r, M') ∧ r < k ∧ Cup M'
  one : ∀ {M : MM}, Cup M → ∀ xs : List D, xs ≠ [] → xs.length < 1000000 → ∃ d M', cl .Lsome [.mu 0, .lst xs] M = some (d, M') ∧ d ∈ xs ∧ Cup M'
  answers : ∀ {M : MM}, Cup M → ∀ k : Nat, k ≤ 100 → ∃ xs M', cl .Lanswers [.mu 0, .int k] M = some (.tup xs, M') ∧ xs.length = k ∧ (∀ y ∈ xs, bit y) ∧ Cup M'
theorem gen_ok (n : Nat) : Gen (G (n + 3)) :=
  ⟨fun c k h1 h2 => cup_roll (n + 2) c k h1 h2, fun c xs h1 h2 => cup_some (n + 1) c xs h1 h2, fun c k h => cup_answers (n + 1) c k h⟩
def bits (k : Nat) (d : D) : Prop := ∃ xs, d = .tup xs ∧ xs.length = k ∧ ∀ y ∈ xs, bit y
theorem bits_of {l : List Int} {k : Nat} (h : ∀ i ∈ l, 0 ≤ i ∧ i ≤ 1) (hl : l.length = k) : bits k (.tup (l.map D.int)) :=
  ⟨_, rfl, by simpa using hl, fun y hy => by
    obtain ⟨i, hi, rfl⟩ := List.mem_map.mp hy
    exact ⟨i, rfl, (h i hi).1, (h i hi).2⟩⟩
theorem bits_answ {k : Nat} {d : D} (h : bits k d) : answ d k = true := by
  obtain ⟨xs, rfl, hl, hb⟩ := h
  exact answ_bits hb hl
theorem bits_good {k : Nat} {d : D} (h : bits k d) (hk : k ≤ 1000) : good 1 d = true := by
  obtain ⟨xs, rfl, hl, hb⟩ := h
  exact good_bits hb (by omega)
theorem str_good (n : Nat) (s : Str) (h : PyData.canLay0 (.str s) = true) : good n (.str s) = true := by
  cases n <;> exact h
theorem deed_gen {cl : Fid → FC} (g : Gen cl) (named : Nat) (hn : 1 ≤ named) (hn3 : named ≤ 3) {M : MM} (c : Cup M) :
    ∃ d M', mFun 6 (B_Ldeed cl) [.mu 0, .int named] M = some (d, M') ∧ deedB named d = true ∧ good 2 d = true ∧ Cup M' := by
  obtain ⟨r, M1, e1, hr, c1⟩ := g.roll c named hn (by omega)
  -- a deed of the first sort
  have pairs : ∀ {M2 : MM}, Cup M2 → ∃ d M', (mSeq (mAsg (mLst (mCons (mTup (mCons (mC (.int 0)) (mCons (mC (.int 0)) (mCons (mC (.int 1)) (mCons (mC (.int 1)) (mCons (mC (.int 1)) (mCons (mC (.int 1)) mNil))))))) (mCons (mTup (mCons (mC (.int 0)) (mCons (mC (.int 0)) (mCons (mC (.int 0)) (mCons (mC (.int 1)) (mCons (mC (.int 1)) (mCons (mC (.int 0)) mNil))))))) (mCons (mTup (mCons (mC (.int 1)) (mCons (mC (.int 0)) (mCons (mC (.int 0)) (mCons (mC (.int 1)) (mCons (mC (.int 1)) (mCons (mC (.int 1)) mNil))))))) (mCons (mTup (mCons (mC (.int 0)) (mCons (mC (.int 0)) (mCons (mC (.int 1)) (mCons (mC (.int 1)) (mCons (mC (.int 1)) (mCons (mC (.int 0)) mNil))))))) (mCons (mTup (mCons (mC (.int 1)) (mCons (mC (.int 1)) (mCons (mC (.int 1)) (mCons (mC (.int 0)) (mCons (mC (.int 0)) (mCons (mC (.int 0)) mNil))))))) (mCons (mTup (mCons (mC (.int 0)) (mCons (mC (.int 0)) (mCons (mC (.int 0)) (mCons (mC (.int 1)) (mCons (mC (.int 1)) (mCons (mC (.int 1)) mNil))))))) (mCons (mTup (mCons (mC (.int 0)) (mCons (mC (.int 1)) (mCons (mC (.int 0)) (mCons (mC (.int 0)) (mCons (mC (.int 1)) (mCons (mC (.int 0)) mNil))))))) mNil)))))))) (tgName 3))
    (mRet (mTup (mCons (mC (.str "pairs")) (mCons (mVar 2) (mCons (mCall (cl .Lsome) (mCons (mVar 0) (mCons (mOp oAdd (mVar 3) (mLst (mCons (mCall (cl .Lanswers) (mCons (mVar 0) (mCons (mC (.int 6)) mNil))) (mCons (mCall (cl .Lanswers) (mCons (mVar 0) (mCons (mC (.int 6)) mNil))) (mCons (mCall (cl .Lanswers) (mCons (mVar 0) (mCons (mC (.int 6)) mNil))) mNil))))) mNil))) mNil))))))
      [some (.mu 0), some (.int named), some (.int r), none, none, none] M2 = some (.rt d, M') ∧ deedB named d = true ∧ good 2 d = true ∧ Cup M' := fun {M2} c2 => by
    obtain ⟨x1, M3, a1, l1, b1, c3⟩ := g.answers c2 6 (by decide)
    obtain ⟨x2, M4, a2, l2, b2, c4⟩ := g.answers c3 6 (by decide)
    obtain ⟨x3, M5, a3, l3, b3, c5⟩ := g.answers c4 6 (by decide)
    obtain ⟨d, M6, a4, hd, c6⟩ := g.one c5 [.tup [.int 0, .int 0, .int 1, .int 1, .int 1, .int 1], .tup [.int 0, .int 0, .int 0, .int 1, .int 1, .int 0], .tup [.int 1, .int 0, .int 0, .int 1, .int 1, .int 1], .tup [.int 0, .int 0, .int 1, .int 1, .int 1, .int 0],
      .tup [.int 1, .int 1, .int 1, .int 0, .int 0, .int 0], .tup [.int 0, .int 0, .int 0, .int 1, .int 1, .int 1], .tup [.int 0, .int 1, .int 0, .int 0, .int 1, .int 0], .tup x1, .tup x2, .tup x3] (by simp) (by simp)
    have hb : bits 6 d := by
      simp only [List.mem_cons, List.not_mem_nil, or_false] at hd
      rcases hd with rfl | rfl | rfl | rfl | rfl | rfl | rfl | rfl | rfl | rfl
      · exact bits_of (l := [0, 0, 1, 1, 1, 1]) (by decide) rfl
      · exact bits_of (l := [0, 0, 0, 1, 1, 0]) (by decide) rfl
      · exact bits_of (l := [1, 0, 0, 1, 1, 1]) (by decide) rfl
      · exact bits_of (l := [0, 0, 1, 1, 1, 0]) (by decide) rfl
      · exact bits_of (l := [1, 1, 1, 0, 0, 0]) (by decide) rfl
      · exact bits_of (l := [0, 0, 0, 1, 1, 1]) (by decide) rfl
      · exact bits_of (l := [0, 1, 0, 0, 1, 0]) (by decide) rfl
      · exact ⟨_, rfl, l1, b1⟩
      · exact ⟨_, rfl, l2, b2⟩
      · exact ⟨_, rfl, l3, b3⟩
    refine ⟨.tup [.str "pairs", .int r, d], M6, ?_, ?_, ?_, c6⟩
    · have a1' : cl .Lanswers [.mu 0, .int 6] M2 = some (.tup x1, M3) := a1
      have a2' : cl .Lanswers [.mu 0, .int 6] M3 = some (.tup x2, M4) := a2
      have a3' : cl .Lanswers [.mu 0, .int 6] M4 = some (.tup x3, M5) := a3
      simp [mFun, mSeq, mRet, mDrop, mIfS, mNever, mSkip, mSet, mAsg, mPar2, mPar3, tgName, tgTup, tgCons, tgNil, mVar, mC, mNil, mCons, mTup, mLst, mOp, mUn, mB, mAnd, mOr, mNot, mIf, mChain, mFn, mCall, mIs, mFor, itemsT, itemsL, mYes, mPart, mNo, mSl, startD, oCmp, oI, oLt, oLe, oGt, oGe, oSub, oLen, oIx, isT, oAdd, a1', a2', a3', a4]
    · have q1 : isS "pairs" (.str "pairs") = true := by decide
      have q2 : btw (.int r) 0 ((named : Int) - 1) = true := by simp [btw]; omega
      simp [deedB, q1, q2, bits_answ hb]
    · have q1 : PyData.canLay0 (.str "pairs") = true := by decide +kernel
      simp [good, q1, bits_good hb (by decide)]
  by_cases h1 : named = 1
  · subst h1
    obtain ⟨d, M', q, h2, h3, c'⟩ := pairs c1
    refine ⟨d, M', ?_, h2, h3, c'⟩
    have e1' : cl .Lroll [.mu 0, .int 1] M = some (.int r, M1) := e1
    have q' := q
    simp [mFun, mSeq, mRet, mDrop, mIfS, mNever, mSkip, mSet, mAsg, mPar2, mPar3, tgName, tgTup, tgCons, tgNil, mVar, mC, mNil, mCons, mTup, mLst, mOp, mUn, mB, mAnd, mOr, mNot, mIf, mChain, mFn, mCall, mIs, mFor, itemsT, itemsL, mYes, mPart, mNo, mSl, startD, oCmp, oI, oLt, oLe, oGt, oGe, oSub, oLen, oIx, isT] at q'
    simp [mFun, mSeq, mRet, mDrop, mIfS, mNever, mSkip, mSet, mAsg, mPar2, mPar3, tgName, tgTup, tgCons, tgNil, mVar, mC, mNil, mCons, mTup, mLst, mOp, mUn, mB, mAnd, mOr, mNot, mIf, mChain, mFn, mCall, mIs, mFor, itemsT, itemsL, mYes, mPart, mNo, mSl, startD, oCmp, oI, oLt, oLe, oGt, oGe, oSub, oLen, oIx, isT, B_Ldeed, e1', oEq, q']
  · obtain ⟨r5, M2, e2, hr5, c2⟩ := g.roll c1 5 (by decide) (by decide)
    have e2' : cl .Lroll [.mu 0, .int 5] M1 = some (.int r5, M2) := e2
    have hne : ((named : Int) == 1) = false := by rw [beq_eq_false_iff_ne]; omega
    by_cases h5 : (r5 : Int) < 2
    · obtain ⟨d, M', q, h2, h3, c'⟩ := pairs c2
      refine ⟨d, M', ?_, h2, h3, c'⟩
      have q' := q
      simp [mFun, mSeq, mRet, mDrop, mIfS, mNever, mSkip, mSet, mAsg, mPar2, mPar3, tgName, tgTup, tgCons, tgNil, mVar, mC, mNil, mCons, mTup, mLst, mOp, mUn, mB, mAnd, mOr, mNot, mIf, mChain, mFn, mCall, mIs, mFor, itemsT, itemsL, mYes, mPart, mNo, mSl, startD, oCmp, oI, oLt, oLe, oGt, oGe, oSub, oLen, oIx, isT] at q'
      simp [mFun, mSeq, mRet, mDrop, mIfS, mNever, mSkip, mSet, mAsg, mPar2, mPar3, tgName, tgTup, tgCons, tgNil, mVar, mC, mNil, mCons, mTup, mLst, mOp, mUn, mB, mAnd, mOr, mNot, mIf, mChain, mFn, mCall, mIs, mFor, itemsT, itemsL, mYes, mPart, mNo, mSl, startD, oCmp, oI, oLt, oLe, oGt, oGe, oSub, oLen, oIx, isT, B_Ldeed, e1, oEq, hne, e2', h5, q']
    · obtain ⟨ys, hys, ne, hl, hmem⟩ := others (named := named) (r := r) (by omega) hn3 hr
      obtain ⟨o, M3, e3, ho, c3⟩ := g.one c2 ys ne (by omega)
      obtain ⟨j, rfl, hj, hjr⟩ := hmem o ho
      have htwo : twoB named (.int r) (.int j) = true := by
        have : ((r : Int) == j) = false := by rw [beq_eq_false_iff_ne]; omega
        simp [twoB, this]
        omega
      have hL : (mLcR rng1 (mCons (mVar 1) mNil) (tgName 5) (mB (mOp oNe (mVar 5) (mVar 2))) (mVar 5) [5]) [some (.mu 0), some (.int named), some (.int r), none, none, none] M2 = some (.lst ys, M2) := by
        have r1 := rng1_ok named (by omega)
        have r2 : (mCons (mVar 1) mNil) [some (.mu 0), some (.int named), some (.int r), none, none, none] M2 = some ([.int (named : Int)], M2) := rfl
        have h3 : lcD (tgName 5) (mB (mOp oNe (mVar 5) (mVar 2))) (mVar 5) (wipeD [some (.mu 0), some (.int named), some (.int r), none, none, none] [5]) (rangeD 0 named) M2 =
            some (((rangeD 0 named).filter (isNo r)).map id, M2) := by
          refine lcD_filter _ _ fun d hd => ⟨_, rfl, ?_, fun _ => rfl⟩
          obtain ⟨i, _, rfl⟩ := List.mem_map.mp hd
          rfl
        rw [hys, List.map_id] at h3
        have e0 : ((named : Int) - 0).toNat = named := by omega
        unfold mLcR
        rw [r2]
        simp only [r1, e0]
        rw [if_pos (show named ≤ 1000 by omega), h3]
      obtain ⟨r3, M4, e4, hr3, c4⟩ := g.roll c3 3 (by decide) (by decide)
      have e4' : cl .Lroll [.mu 0, .int 3] M3 = some (.int r3, M4) := e4
      by_cases h6 : (0 : Int) < r3
      · have h6' : 0 < r3 := by omega
        obtain ⟨x1, M5, a1, l1, b1, c5⟩ := g.answers c4 4 (by decide)
        obtain ⟨x2, M6, a2, l2, b2, c6⟩ := g.answers c5 4 (by decide)
        obtain ⟨d, M7, a4, hd, c7⟩ := g.one c6 [.tup [.int 0, .int 1, .int 0, .int 1], .tup [.int 0, .int 1, .int 1, .int 0], .tup [.int 0, .int 1, .int 1, .int 1], .tup [.int 0, .int 0, .int 0, .int 1], .tup [.int 0, .int 0, .int 1, .int 1], .tup x1, .tup x2] (by simp) (by simp)
        have hb : bits 4 d := by
          simp only [List.mem_cons, List.not_mem_nil, or_false] at hd
          rcases hd with rfl | rfl | rfl | rfl | rfl | rfl | rfl
          · exact bits_of (l := [0, 1, 0, 1]) (by decide) rfl
          · exact bits_of (l := [0, 1, 1, 0]) (by decide) rfl
          · exact bits_of (l := [0, 1, 1, 1]) (by decide) rfl
          · exact bits_of (l := [0, 0, 0, 1]) (by decide) rfl
          · exact bits_of (l := [0, 0, 1, 1]) (by decide) rfl
          · exact ⟨_, rfl, l1, b1⟩
          · exact ⟨_, rfl, l2, b2⟩
        refine ⟨.tup [.str "takes", .int r, .int j, d], M7, ?_, ?_, ?_, c7⟩
        · have a1' : cl .Lanswers [.mu 0, .int 4] M4 = some (.tup x1, M5) := a1
          have a2' : cl .Lanswers [.mu 0, .int 4] M5 = some (.tup x2, M6) := a2
          simp [mFun, mSeq, mRet, mDrop, mIfS, mNever, mSkip, mSet, mAsg, mPar2, mPar3, tgName, tgTup, tgCons, tgNil, mVar, mC, mNil, mCons, mTup, mLst, mOp, mUn, mB, mAnd, mOr, mNot, mIf, mChain, mFn, mCall, mIs, mFor, itemsT, itemsL, mYes, mPart, mNo, mSl, startD, oCmp, oI, oLt, oLe, oGt, oGe, oSub, oLen, oIx, isT, B_Ldeed, e1, oEq, oNe, hne, e2', h5, hL, e3, e4', h6, h6', a1', a2', a4]
        · have q1 : isS "takes" (.str "takes") = true := by decide
          simp [deedB, q1, htwo, bits_answ hb]
        · have q1 : PyData.canLay0 (.str "takes") = true := by decide +kernel
          simp [good, q1, bits_good hb (by decide)]
      · have h6' : r3 = 0 := by omega
        obtain ⟨d, M7, a4, hd, c7⟩ := g.one c4 [.str "know", .str "part", .str "turn"] (by simp) (by simp)
        have hw : wordB d = true ∧ good 1 d = true := by
          simp only [List.mem_cons, List.not_mem_nil, or_false] at hd
          rcases hd with rfl | rfl | rfl <;> exact ⟨by decide, by decide +kernel⟩
        refine ⟨.tup [.str "tie", .int r, .int j, d], M7, ?_, ?_, ?_, c7⟩
        · simp [mFun, mSeq, mRet, mDrop, mIfS, mNever, mSkip, mSet, mAsg, mPar2, mPar3, tgName, tgTup, tgCons, tgNil, mVar, mC, mNil, mCons, mTup, mLst, mOp, mUn, mB, mAnd, mOr, mNot, mIf, mChain, mFn, mCall, mIs, mFor, itemsT, itemsL, mYes, mPart, mNo, mSl, startD, oCmp, oI, oLt, oLe, oGt, oGe, oSub, oLen, oIx, isT, B_Ldeed, e1, oEq, oNe, hne, e2', h5, hL, e3, e4', h6, h6', a4]
        · have q1 : isS "takes" (.str "tie") = false := by decide
          have q2 : isS "tie" (.str "tie") = true := by decide
          simp [deedB, q1, q2, htwo, hw.1]
        · have q1 : PyData.canLay0 (.str "tie") = true := by decide +kernel
          simp [good, q1, hw.2]
end MT

namespace MT
open PySem PySem.Spec PyProof.Rows L2 ML
theorem sumM_mono {f g : D → T3} (h : ∀ x v, f x = some v → g x = some v) : ∀ {xs : List D} {v : Nat × Nat × Nat}, sumM f xs = some v → sumM g xs = some v
  | [], v, e => e
  | x :: xs, (a, b, c), e => by
    obtain ⟨a1, b1, c1, a2, b2, c2, h1, h2, rfl, rfl, rfl⟩ := sum_cons e
    unfold sumM
    rw [h x _ h1, sumM_mono h h2]
theorem itM_mono {named : Int} {f g : D → T3} (h : ∀ x v, f x = some v → g x = some v) {x : D} {v : Nat × Nat × Nat} (e : itM named f x = some v) : itM named g x = some v := by
  unfold itM at e ⊢
  split at e
  · rename_i q
    rw [if_pos q]
    exact e
  · rename_i q
    rw [if_neg q]
    split at e
    · rename_i hh p q' y z
      split at e
      · rename_i q2
        simp only [if_pos q2]
        split at e
        · rename_i a b c a' b' c' e1 e2
          rw [h _ _ e1, h _ _ e2]
          exact e
        · cases e
      · cases e
    · cases e
theorem scM_succ {named : Int} : ∀ {n : Nat} {d : D} {v : Nat × Nat × Nat}, scM named n d = some v → scM named (n + 1) d = some v
  | 0, d, v, e => by cases e
  | n + 1, .tup xs, v, e => by
    show sumM (itM named (scM named (n + 1))) xs = some v
    exact sumM_mono (fun x v h => itM_mono (fun x v h => scM_succ h) h) e
  | n + 1, .non, v, e => by cases e
  | n + 1, .bl _, v, e => by cases e
  | n + 1, .int _, v, e => by cases e
  | n + 1, .str _, v, e => by cases e
  | n + 1, .lst _, v, e => by cases e
  | n + 1, .mu _, v, e => by cases e
  | n + 1, .fz _, v, e => by cases e
theorem scM_mono {named : Int} {n m : Nat} {d : D} {v : Nat × Nat × Nat} (e : scM named n d = some v) (h : n ≤ m) : scM named m d = some v := by
  obtain ⟨k, rfl⟩ := Nat.le.dest h
  induction k with
  | zero => exact e
  | succ k ih => exact scM_succ (ih (by omega))
def fine (named : Int) (t : Nat) (x : D) : Prop := good (2 * t + 2) x = true ∧ ∃ a b c, itM named (scM named (2 * t + 2)) x = some (a, b, c) ∧ c ≤ t
theorem fine_sum {named : Int} {t : Nat} : ∀ {xs : List D}, (∀ x ∈ xs, fine named t x) → ∃ a b c, sumM (itM named (scM named (2 * t + 2))) xs = some (a, b, c) ∧ c ≤ t
  | [], _ => ⟨0, 0, 0, rfl, Nat.zero_le _⟩
  | x :: xs, h => by
    obtain ⟨_, a1, b1, c1, e1, l1⟩ := h x List.mem_cons_self
    obtain ⟨a2, b2, c2, e2, l2⟩ := fine_sum (xs := xs) fun y hy => h y (List.mem_cons_of_mem _ hy)
    refine ⟨a1 + a2, b1 + b2, max c1 c2, ?_, by omega⟩
    unfold sumM
    rw [e1, e2]
def iCond (cl : Fid → FC) : FB := (mB (mAnd (mOp oGt (mVar 1) (mC (.int 1))) (mAnd (mOp oGt (mVar 3) (mC (.int 0))) (mOp oEq (mCall (cl .Lroll) (mCons (mVar 0) (mCons (mC (.int 4)) mNil))) (mC (.int 0))))))
def iAsk (cl : Fid → FC) : FS := (mSeq (mAsg (mCall (cl .Lroll) (mCons (mVar 0) (mCons (mVar 1) mNil))) (tgName 6))
    (mSeq (mAsg (mCall (cl .Lsome) (mCons (mVar 0) (mCons (mLcR rng1 (mCons (mVar 1) mNil) (tgName 10) (mB (mOp oNe (mVar 10) (mVar 6))) (mVar 10) [10]) mNil))) (tgName 7))
    (mSeq (mPar2 8 9 (mCons (mCall (cl .Litems) (mCons (mVar 0) (mCons (mVar 1) (mCons (mOp oDiv (mVar 2) (mC (.int 2))) (mCons (mOp oSub (mVar 3) (mC (.int 1))) mNil))))) (mCons (mCall (cl .Litems) (mCons (mVar 0) (mCons (mVar 1) (mCons (mOp oDiv (mVar 2) (mC (.int 2))) (mCons (mOp oSub (mVar 3) (mC (.int 1))) mNil))))) mNil)))
    (mAsg (mOp oAdd (mVar 4) (mTup (mCons (mTup (mCons (mC (.str "ask")) (mCons (mVar 6) (mCons (mVar 7) (mCons (mVar 8) (mCons (mVar 9) mNil)))))) mNil))) (tgName 4)))))
def iDeed (cl : Fid → FC) : FS := (mAsg (mOp oAdd (mVar 4) (mTup (mCons (mCall (cl .Ldeed) (mCons (mVar 0) (mCons (mVar 1) mNil))) mNil))) (tgName 4))
theorem items_eq (cl : Fid → FC) : B_Litems cl = mSeq (mAsg (mTup mNil) (tgName 4)) (mSeq (mForR rng1 (mCons (mCall (cl .Lroll) (mCons (mVar 0) (mCons (mOp oAdd (mVar 2) (mC (.int 1))) mNil))) mNil) (tgName 5) (mIfS (iCond cl) (iAsk cl) (iDeed cl))) (mRet (mVar 4))) := rfl
/-- the frame of Litems -/
def ieN (named most t : Nat) (xs : List D) (e5 e6 e7 e8 e9 e10 : Option D) : En := [some (.mu 0), some (.int named), some (.int most), some (.int t), some (.tup xs), e5, e6, e7, e8, e9, e10]
theorem i_cond {cl : Fid → FC} (g : Gen cl) (named most t : Nat) (xs : List D) (e5 e6 e7 e8 e9 e10 : Option D) {M : MM} (c : Cup M) :
    ∃ b M1, iCond cl (ieN named most t xs e5 e6 e7 e8 e9 e10) M = some (b, M1) ∧ Cup M1 ∧ (b = true → 2 ≤ named ∧ 1 ≤ t) := by
  by_cases h1 : 1 < named
  · by_cases h2 : 0 < t
    · obtain ⟨r, M1, e1, _, c1⟩ := g.roll c 4 (by decide) (by decide)
      have e1' : cl .Lroll [.mu 0, .int 4] M = some (.int r, M1) := e1
      refine ⟨decide (r = 0), M1, ?_, c1, fun _ => ⟨h1, h2⟩⟩
      have h1' : (1 : Int) < named := by omega
      have h2' : (0 : Int) < t := by omega
      have h3 : ((r : Int) == 0) = decide (r = 0) := by rw [Bool.eq_iff_iff]; simp
      simp [mFun, mSeq, mRet, mDrop, mIfS, mNever, mSkip, mSet, mAsg, mPar2, mPar3, tgName, tgTup, tgCons, tgNil, mVar, mC, mNil, mCons, mTup, mLst, mOp, mUn, mB, mAnd, mOr, mNot, mIf, mChain, mFn, mCall, mIs, mFor, itemsT, itemsL, mYes, mPart, mNo, mSl, startD, oCmp, oI, oLt, oLe, oGt, oGe, oSub, oLen, oIx, isT, iCond, ieN, h1, h2, h1', h2', e1', oEq, h3]
    · refine ⟨false, M, ?_, c, fun h => by cases h⟩
      have h1' : (1 : Int) < named := by omega
      have h2' : t = 0 := by omega
      subst h2'
      simp [mFun, mSeq, mRet, mDrop, mIfS, mNever, mSkip, mSet, mAsg, mPar2, mPar3, tgName, tgTup, tgCons, tgNil, mVar, mC, mNil, mCons, mTup, mLst, mOp, mUn, mB, mAnd, mOr, mNot, mIf, mChain, mFn, mCall, mIs, mFor, itemsT, itemsL, mYes, mPart, mNo, mSl, startD, oCmp, oI, oLt, oLe, oGt, oGe, oSub, oLen, oIx, isT, iCond, ieN, h1, h1']
  · refine ⟨false, M, ?_, c, fun h => by cases h⟩
    have h1' : ¬ (1 : Int) < named := by omega
    simp [mFun, mSeq, mRet, mDrop, mIfS, mNever, mSkip, mSet, mAsg, mPar2, mPar3, tgName, tgTup, tgCons, tgNil, mVar, mC, mNil, mCons, mTup, mLst, mOp, mUn, mB, mAnd, mOr, mNot, mIf, mChain, mFn, mCall, mIs, mFor, itemsT, itemsL, mYes, mPart, mNo, mSl, startD, oCmp, oI, oLt, oLe, oGt, oGe, oSub, oLen, oIx, isT, iCond, ieN, h1, h1']
theorem i_deed {cl : Fid → FC} {named : Nat} (gd : ∀ {M : MM}, Cup M → ∃ d M', cl .Ldeed [.mu 0, .int named] M = some (d, M') ∧ deedB named d = true ∧ good 2 d = true ∧ Cup M') (most t : Nat) (xs : List D) (hl9 : xs.length ≤ 900) (e5 e6 e7 e8 e9 e10 : Option D) {M : MM} (c : Cup M) :
    ∃ y M', iDeed cl (ieN named most t xs e5 e6 e7 e8 e9 e10) M = some (.nx (ieN named most t (xs ++ [y]) e5 e6 e7 e8 e9 e10), M') ∧ fine named t y ∧ Cup M' := by
  obtain ⟨d, M', e, h1, h2, c'⟩ := gd c
  refine ⟨d, M', ?_, ⟨good_mono h2 (by omega), 1, 0, 0, ?_, Nat.zero_le _⟩, c'⟩
  · have h9 : xs.length ≤ 999 := by omega
    simp [mFun, mSeq, mRet, mDrop, mIfS, mNever, mSkip, mSet, mAsg, mPar2, mPar3, tgName, tgTup, tgCons, tgNil, mVar, mC, mNil, mCons, mTup, mLst, mOp, mUn, mB, mAnd, mOr, mNot, mIf, mChain, mFn, mCall, mIs, mFor, itemsT, itemsL, mYes, mPart, mNo, mSl, startD, oCmp, oI, oLt, oLe, oGt, oGe, oSub, oLen, oIx, isT, iDeed, ieN, oAdd, e, h9]
  · unfold itM
    rw [if_pos h1]
def GI (cl : Fid → FC) (named : Nat) (most t : Nat) : Prop := ∀ {M : MM}, Cup M → ∃ xs M', cl .Litems [.mu 0, .int named, .int most, .int t] M = some (.tup xs, M') ∧ xs.length ≤ most ∧ (∀ x ∈ xs, fine named t x) ∧ Cup M'
theorem fine_tup {named : Int} {t : Nat} {xs : List D} (h : ∀ x ∈ xs, fine named t x) (hl : xs.length ≤ 1000) : good (2 * t + 3) (.tup xs) = true ∧ ∃ a b c, scM named (2 * t + 3) (.tup xs) = some (a, b, c) ∧ c ≤ t := by
  refine ⟨?_, ?_⟩
  · show (decide (xs.length ≤ 1000) && xs.all fun x => good (2 * t + 2) x) = true
    simp only [Bool.and_eq_true, List.all_eq_true, decide_eq_true_eq]
    exact ⟨hl, fun x hx => (h x hx).1⟩
  · exact fine_sum h
theorem i_ask {cl : Fid → FC} (g : Gen cl) {named most s : Nat} (hn : 2 ≤ named) (hn3 : named ≤ 3) (hm : most ≤ 100) (gi : GI cl named (most / 2) s) (xs : List D) (hl9 : xs.length ≤ 900) (e5 e6 e7 e8 e9 e10 : Option D) {M : MM} (c : Cup M) :
    ∃ y f6 f7 f8 f9 M', iAsk cl (ieN named most (s + 1) xs e5 e6 e7 e8 e9 e10) M = some (.nx (ieN named most (s + 1) (xs ++ [y]) e5 f6 f7 f8 f9 e10), M') ∧ fine named (s + 1) y ∧ Cup M' := by
  obtain ⟨r, M1, a1, hr, c1⟩ := g.roll c named (by omega) (by omega)
  obtain ⟨ys, hys, ne, hl, hmem⟩ := others (named := named) (r := r) hn hn3 hr
  obtain ⟨o, M2, a2, ho, c2⟩ := g.one c1 ys ne (by omega)
  obtain ⟨j, rfl, hj, hjr⟩ := hmem o ho
  have htwo : twoB named (.int r) (.int j) = true := by
    have : ((r : Int) == j) = false := by rw [beq_eq_false_iff_ne]; omega
    simp [twoB, this]
    omega
  obtain ⟨y, M3, a3, hy1, hy2, c3⟩ := gi c2
  obtain ⟨z, M4, a4, hz1, hz2, c4⟩ := gi c3
  obtain ⟨gy, ya, yb, yc, hy, ly⟩ := fine_tup hy2 (by omega)
  obtain ⟨gz, za, zb, zc, hz, lz⟩ := fine_tup hz2 (by omega)
  have hL : (mLcR rng1 (mCons (mVar 1) mNil) (tgName 10) (mB (mOp oNe (mVar 10) (mVar 6))) (mVar 10) [10]) (ieN named most (s + 1) xs e5 (some (.int r)) e7 e8 e9 e10) M1 = some (.lst ys, M1) := by
    have r1 := rng1_ok named (by omega)
    have r2 : (mCons (mVar 1) mNil) (ieN named most (s + 1) xs e5 (some (.int r)) e7 e8 e9 e10) M1 = some ([.int (named : Int)], M1) := rfl
    have h3 : lcD (tgName 10) (mB (mOp oNe (mVar 10) (mVar 6))) (mVar 10) (wipeD (ieN named most (s + 1) xs e5 (some (.int r)) e7 e8 e9 e10) [10]) (rangeD 0 named) M1 =
        some (((rangeD 0 named).filter (isNo r)).map id, M1) := by
      refine lcD_filter _ _ fun d hd => ⟨_, rfl, ?_, fun _ => rfl⟩
      obtain ⟨i, _, rfl⟩ := List.mem_map.mp hd
      rfl
    rw [hys, List.map_id] at h3
    have e0 : ((named : Int) - 0).toNat = named := by omega
    unfold mLcR
    rw [r2]
    simp only [r1, e0]
    rw [if_pos (show named ≤ 1000 by omega), h3]
  refine ⟨.tup [.str "ask", .int r, .int j, .tup y, .tup z], some (.int r), some (.int j), some (.tup y), some (.tup z), M4, ?_, ⟨?_, ya + za, yb + zb + 1, max yc zc + 1, ?_, by omega⟩, c4⟩
  · have a3' : cl .Litems [.mu 0, .int named, .int ((most : Int) / 2), .int (((s + 1 : Nat) : Int) - 1)] M2 = some (.tup y, M3) := by
      have q1 : (most : Int) / 2 = ((most / 2 : Nat) : Int) := by omega
      have q2 : ((s + 1 : Nat) : Int) - 1 = (s : Int) := by omega
      rw [q1, q2]
      exact a3
    have a4' : cl .Litems [.mu 0, .int named, .int ((most : Int) / 2), .int (((s + 1 : Nat) : Int) - 1)] M3 = some (.tup z, M4) := by
      have q1 : (most : Int) / 2 = ((most / 2 : Nat) : Int) := by omega
      have q2 : ((s + 1 : Nat) : Int) - 1 = (s : Int) := by omega
      rw [q1, q2]
      exact a4
    unfold iAsk
    unfold ieN at hL
    simp only [ieN, mSeq, mAsg, mCall, mCons, mNil, mVar, mC, mOp, mPar2, mTup, tgName, List.getElem?_cons_zero, List.getElem?_cons_succ, List.set_cons_zero, List.set_cons_succ, a1, hL, a2, oDiv, oSub, oI, oAdd]
    simp only [show ((0 : Int) < 2 ∧ (2 : Int) < 1073741824) from by decide, and_self, if_true, a3', a4', List.getElem?_cons_zero, List.getElem?_cons_succ, List.set_cons_zero, List.set_cons_succ]
    have h9 : xs.length + ([D.tup [.str "ask", .int r, .int j, .tup y, .tup z]] : List D).length ≤ 1000 := by simp; omega
    simp only [h9, if_true]
  · have q0 : PyData.canLay0 (.str "ask") = true := by decide +kernel
    have g1 := good_mono gy (show 2 * s + 3 ≤ 2 * s + 3 by omega)
    show (decide (([D.str "ask", .int r, .int j, .tup y, .tup z] : List D).length ≤ 1000) && ([D.str "ask", .int r, .int j, .tup y, .tup z] : List D).all fun x => good (2 * s + 3) x) = true
    have q1 : good (2 * s + 3) (.str "ask") = true := str_good _ _ q0
    have q2 : good (2 * s + 3) (.int r) = true := rfl
    have q3 : good (2 * s + 3) (.int j) = true := rfl
    simp [q1, q2, q3, gy, gz]
  · have d0 : deedB named (.tup [.str "ask", .int r, .int j, .tup y, .tup z]) = false := by simp [deedB]
    have i0 : isS "ask" (.str "ask") = true := by decide
    have hy' : scM named (2 * (s + 1) + 2) (.tup y) = some (ya, yb, yc) := scM_mono hy (by omega)
    have hz' : scM named (2 * (s + 1) + 2) (.tup z) = some (za, zb, zc) := scM_mono hz (by omega)
    unfold itM
    rw [d0]
    simp [i0, htwo, hy', hz']
theorem i_turns {cl : Fid → FC} (g : Gen cl) {named most t : Nat} (hn : 1 ≤ named) (hn3 : named ≤ 3) (hm : most ≤ 100)
    (gd : ∀ {M : MM}, Cup M → ∃ d M', cl .Ldeed [.mu 0, .int named] M = some (d, M') ∧ deedB named d = true ∧ good 2 d = true ∧ Cup M')
    (gi : ∀ s, t = s + 1 → GI cl named (most / 2) s) : ∀ (ds xs : List D) (e5 e6 e7 e8 e9 e10 : Option D) {M : MM}, Cup M → xs.length + ds.length ≤ 900 → (∀ x ∈ xs, fine named t x) →
    ∃ ys f5 f6 f7 f8 f9 M', forD (tgName 5) (mIfS (iCond cl) (iAsk cl) (iDeed cl)) ds (ieN named most t xs e5 e6 e7 e8 e9 e10) M = some (.nx (ieN named most t ys f5 f6 f7 f8 f9 e10), M') ∧ ys.length = xs.length + ds.length ∧ (∀ x ∈ ys, fine named t x) ∧ Cup M'
  | [], xs, e5, e6, e7, e8, e9, e10, M, c, hl9, hx => ⟨xs, e5, e6, e7, e8, e9, M, rfl, rfl, hx, c⟩
  | d :: ds, xs, e5, e6, e7, e8, e9, e10, M, c, hl9, hx => by
    have hl8 : xs.length ≤ 900 := by simp at hl9; omega
    obtain ⟨b, M1, q1, c1, hb⟩ := i_cond g named most t xs (some d) e6 e7 e8 e9 e10 c
    have step : ∃ y f6 f7 f8 f9 M2, mIfS (iCond cl) (iAsk cl) (iDeed cl) (ieN named most t xs (some d) e6 e7 e8 e9 e10) M = some (.nx (ieN named most t (xs ++ [y]) (some d) f6 f7 f8 f9 e10), M2) ∧ fine named t y ∧ Cup M2 := by
      cases b with
      | false =>
        obtain ⟨y, M2, q2, hy, c2⟩ := i_deed gd most t xs hl8 (some d) e6 e7 e8 e9 e10 c1
        refine ⟨y, e6, e7, e8, e9, M2, ?_, hy, c2⟩
        unfold mIfS
        rw [q1]
        exact q2
      | true =>
        obtain ⟨h1, h2⟩ := hb rfl
        obtain ⟨s, rfl⟩ : ∃ s, t = s + 1 := ⟨t - 1, by omega⟩
        obtain ⟨y, f6, f7, f8, f9, M2, q2, hy, c2⟩ := i_ask g h1 hn3 hm (gi s rfl) xs hl8 (some d) e6 e7 e8 e9 e10 c1
        refine ⟨y, f6, f7, f8, f9, M2, ?_, hy, c2⟩
        unfold mIfS
        rw [q1]
        exact q2
    obtain ⟨y, f6, f7, f8, f9, M2, q2, hy, c2⟩ := step
    obtain ⟨ys, g5, g6, g7, g8, g9, M3, q3, hl, hys, c3⟩ := i_turns g hn hn3 hm gd gi ds (xs ++ [y]) (some d) f6 f7 f8 f9 e10 c2 (by simp at hl9 ⊢; omega) (fun x hx' => by
      rcases List.mem_append.mp hx' with h | h
      · exact hx x h
      · rw [List.mem_singleton.mp h]; exact hy)
    refine ⟨ys, g5, g6, g7, g8, g9, M3, ?_, by simp at hl ⊢; omega, hys, c3⟩
    have t1 : tgName 5 d (ieN named most t xs e5 e6 e7 e8 e9 e10) = some (ieN named most t xs (some d) e6 e7 e8 e9 e10) := rfl
    unfold forD
    rw [t1]
    dsimp only
    rw [q2]
    exact q3
theorem g_items {named : Nat} (hn : 1 ≤ named) (hn3 : named ≤ 3) (n : Nat) : ∀ (t most : Nat), most ≤ 100 → GI (G (n + t + 5)) named most t
  | t, most, hm => by
    intro c
    rename_i M
    have g : Gen (G (n + t + 4)) := gen_ok (n + t + 1)
    have gd : ∀ {M : MM}, Cup M → ∃ d M', G (n + t + 4) .Ldeed [.mu 0, .int named] M = some (d, M') ∧ deedB named d = true ∧ good 2 d = true ∧ Cup M' := fun c => deed_gen (gen_ok (n + t)) named hn hn3 c
    have gi : ∀ s, t = s + 1 → GI (G (n + t + 4)) named (most / 2) s := fun s hs => by
      subst hs
      exact g_items hn hn3 n s (most / 2) (by omega)
    obtain ⟨r, M1, e1, hr, c1⟩ := g.roll c (most + 1) (by omega) (by omega)
    obtain ⟨ys, f5, f6, f7, f8, f9, M2, q, hl, hy, c2⟩ := i_turns g hn hn3 hm gd gi (rangeD 0 r) [] none none none none none none c1 (by simp [rangeD]; omega) (by simp)
    refine ⟨ys, M2, ?_, ?_, hy, c2⟩
    · show mFun 11 (B_Litems (G (n + t + 4))) [.mu 0, .int named, .int most, .int t] M = _
      generalize G (n + t + 4) = cl at *
      have e1' : cl .Lroll [.mu 0, .int ((most : Int) + 1)] M = some (.int r, M1) := e1
      have r1 := rng1_ok r (by omega)
      have e0 : ((r : Int) - 0).toNat = r := by omega
      unfold ieN at q
      rw [items_eq]
      simp only [mFun, startD, mSeq, mAsg, mTup, mCons, mNil, mForR, mCall, mVar, mOp, mC, oAdd, mRet, tgName, List.getElem?_cons_zero, List.getElem?_cons_succ, List.set_cons_zero, List.set_cons_succ, List.length_cons, List.length_nil, List.map_cons, List.map_nil, List.cons_append, List.nil_append, e1', r1, e0]
      simp [List.replicate, e1', r1, q]
    · have : (rangeD 0 r).length = r := by simp [rangeD]
      rw [this] at hl
      simp at hl
      omega
  termination_by t => t
end MT

namespace MT
open PySem PySem.Spec PyProof.Rows L2 ML
theorem cut_lo {xs : List D} {k : Nat} (h : k ≤ xs.length) : cutD xs none (some (k : Int)) = xs.take k := by
  unfold ML.cutD
  rw [HT.sIx_none, HT.sIx_nat, Nat.min_eq_left h]
  simp
theorem cut_hi {xs : List D} {k : Nat} (h : k ≤ xs.length) : cutD xs (some (k : Int)) none = xs.drop k := by
  unfold ML.cutD
  rw [HT.sIx_none, HT.sIx_nat, Nat.min_eq_left h]
  apply List.take_of_length_le
  simp
theorem cut_hi1 {xs : List D} {k : Nat} (h : k + 1 ≤ xs.length) : cutD xs (some ((k : Int) + 1)) none = xs.drop (k + 1) := by
  have := cut_hi h
  rw [← this]
  rfl
theorem cut_tail (x : D) (xs : List D) : cutD (x :: xs) (some 1) none = xs := cut_hi (xs := x :: xs) (k := 1) (by simp)
theorem cut_tl (xs : List D) : cutD xs (some 1) none = xs.tail := by
  cases xs with
  | nil => rfl
  | cons x xs => exact cut_tail x xs
def sWh (cl : Fid → FC) (k : Nat) : FS := whileD (mB (mOp oGt (mCall (cl .Lcount) (mCons (mVar 4) mNil)) (mC (.int 30)))) (mAsg (mSl (mVar 4) (mPart (mC (.int 1))) mNo) (tgName 4)) k
theorem script_eq (cl : Fid → FC) : B_Lscript cl = mSeq (mAsg (mCall (cl .Litems) (mCons (mVar 0) (mCons (mVar 1) (mCons (mVar 2) (mCons (mVar 3) mNil))))) (tgName 4)) (mSeq (sWh cl 100) (mRet (mVar 4))) := rfl
theorem s_while {cl : Fid → FC} {named : Int} {M : MM} (hc : ∀ (xs : List D) (a b c : Nat), (∀ x ∈ xs, fine named 3 x) → xs.length ≤ 1000 → scM named 9 (.tup xs) = some (a, b, c) → cl .Lcount [.tup xs] M = some (.int ((a + b : Nat) : Int), M)) (e1 e2 e3 : Option D) : ∀ (k : Nat) (xs : List D), xs.length < k → xs.length ≤ 1000 → (∀ x ∈ xs, fine named 3 x) →
    ∃ ys a b c, sWh cl k [some (.mu 0), e1, e2, e3, some (.tup xs)] M = some (.nx [some (.mu 0), e1, e2, e3, some (.tup ys)], M) ∧ ys.length ≤ xs.length ∧ (∀ x ∈ ys, fine named 3 x) ∧ scM named 9 (.tup ys) = some (a, b, c) ∧ c ≤ 3 ∧ a + b ≤ 30
  | 0, xs, h, _, _ => by omega
  | k + 1, xs, h, hl, hx => by
    obtain ⟨a, b, c, e, hle⟩ := fine_sum hx
    have q := hc xs a b c hx hl e
    by_cases h30 : a + b ≤ 30
    · refine ⟨xs, a, b, c, ?_, Nat.le_refl _, hx, e, hle, h30⟩
      have h' : ¬ ((30 : Int) < ((a + b : Nat) : Int)) := by omega
      unfold sWh whileD
      simp only [mB, mOp, mCall, mCons, mNil, mVar, mC, List.getElem?_cons_zero, List.getElem?_cons_succ, q, oGt, oCmp, oI, h', decide_false]
    · cases xs with
      | nil =>
        cases e
        omega
      | cons x xs =>
        obtain ⟨ys, a', b', c', e', r1, r2, r3, r4, r5⟩ := s_while hc e1 e2 e3 k xs (by simp at h; omega) (by simp at hl; omega) (fun y hy => hx y (List.mem_cons_of_mem _ hy))
        refine ⟨ys, a', b', c', ?_, by simp; omega, r2, r3, r4, r5⟩
        have h' : ((30 : Int) < ((a + b : Nat) : Int)) := by omega
        unfold sWh whileD
        simp only [mB, mOp, mCall, mCons, mNil, mVar, mC, List.getElem?_cons_zero, List.getElem?_cons_succ, q, oGt, oCmp, oI, h', decide_true, mAsg, mSl, mPart, mNo, oSl, cut_tail, tgName, List.set_cons_zero, List.set_cons_succ]
        exact e'
theorem g_script {named : Nat} (hn : 1 ≤ named) (hn3 : named ≤ 3) (n : Nat) {M : MM} (cu : Cup M) : ∃ xs M' a b c, G (n + 11) .Lscript [.mu 0, .int named, .int 6, .int 3] M = some (.tup xs, M') ∧ good 9 (.tup xs) = true ∧ scM named 9 (.tup xs) = some (a, b, c) ∧ c ≤ 3 ∧ a + b ≤ 30 ∧ Cup M' := by
  obtain ⟨xs, M1, q1, hl, hx, c1⟩ := g_items hn hn3 (n + 2) 3 6 (by decide) cu
  have hc : ∀ (xs : List D) (a b c : Nat), (∀ x ∈ xs, fine named 3 x) → xs.length ≤ 1000 → scM named 9 (.tup xs) = some (a, b, c) → G (n + 10) .Lcount [.tup xs] M1 = some (.int ((a + b : Nat) : Int), M1) := fun xs a b c hx hl e =>
    g_lcount (named := named) (n := 9) (by decide) (.tup xs) (fine_tup hx hl).1 a b c e n M1
  obtain ⟨ys, a, b, c, q2, hl2, hy, e, hc3, h30⟩ := s_while hc (some (.int named)) (some (.int 6)) (some (.int 3)) 100 xs (by omega) (by omega) hx
  refine ⟨ys, M1, a, b, c, ?_, (fine_tup hy (by omega)).1, e, hc3, h30, c1⟩
  show mFun 5 (B_Lscript (G (n + 10))) [.mu 0, .int named, .int 6, .int 3] M = _
  have q1' : G (n + 10) .Litems [.mu 0, .int named, .int 6, .int 3] M = some (.tup xs, M1) := q1
  generalize G (n + 10) = cl at *
  rw [script_eq]
  simp [mFun, startD, mSeq, mAsg, mCall, mCons, mNil, mVar, tgName, mRet, q1', List.replicate, q2]
end MT

namespace MT
open PySem PySem.Spec PyProof.Rows L2 ML
theorem it_more {named : Int} {sc : D → T3} {x : D} {a b c : Nat} (h : itM named sc x = some (a, b, c)) :
    ∃ its, x = .tup its ∧ 1 ≤ its.length ∧ its.length ≤ 5 ∧ ((∃ h r, its = h :: r ∧ isS "ask" h = false) ∨
    (∃ (h : D) (i j : Int) (y z : D) (a1 b1 c1 a2 b2 c2 : Nat), its = [h, .int i, .int j, y, z] ∧ isS "ask" h = true ∧ sc y = some (a1, b1, c1) ∧ sc z = some (a2, b2, c2) ∧ a = a1 + a2 ∧ b = b1 + b2 + 1)) := by
  rcases it_cases h with ⟨_, _, _, h1, r, rfl, q⟩ | ⟨h1, p, q, y, z, a1, b1, c1, a2, b2, c2, rfl, i1, i2, i3, i4, i5, i6⟩
  · refine ⟨_, rfl, by simp, ?_, .inl ⟨_, _, rfl, q⟩⟩
    unfold itM at h
    split at h
    · rename_i hd
      unfold deedB at hd
      split at hd
      · rename_i e; cases e; simp
      · rename_i e; cases e; simp
      · cases hd
    · split at h
      · rename_i e; cases e; simp
      · cases h
  · refine ⟨_, rfl, by simp, by simp, .inr ?_⟩
    have tw : twoB named p q = true := by
      unfold itM at h
      split at h
      · rename_i hd
        simp [deedB] at hd
      · dsimp only at h
        split at h
        · rename_i hh
          rw [Bool.and_eq_true] at hh
          exact hh.2
        · cases h
    unfold twoB at tw
    split at tw
    · exact ⟨_, _, _, _, _, _, _, _, _, _, _, rfl, i1, i2, i3, i4, i5⟩
    · cases tw
theorem mk_tup {k : Nat} {xs : List D} (h : ∀ x ∈ xs, good k x = true) (hl : xs.length ≤ 1000) : good (k + 1) (.tup xs) = true := by
  show (decide (xs.length ≤ 1000) && xs.all (good k)) = true
  simp only [Bool.and_eq_true, List.all_eq_true, decide_eq_true_eq]
  exact ⟨hl, h⟩
theorem mk_lst {k : Nat} {xs : List D} (h : ∀ x ∈ xs, good k x = true) (hl : xs.length ≤ 1000) : good (k + 1) (.lst xs) = true := by
  show (decide (xs.length ≤ 1000) && xs.all (good k)) = true
  simp only [Bool.and_eq_true, List.all_eq_true, decide_eq_true_eq]
  exact ⟨hl, h⟩
theorem oAdd_tt {xs ys : List D} (M : MM) (h : xs.length + ys.length ≤ 1000) : oAdd M (.tup xs) (.tup ys) = some (.tup (xs ++ ys)) := if_pos h
theorem oAdd_ll {xs ys : List D} (M : MM) (h : xs.length + ys.length ≤ 1000) : oAdd M (.lst xs) (.lst ys) = some (.lst (xs ++ ys)) := if_pos h
/-- with the item at p put otherwise -/
def putD (xs : List D) (p : Nat) (e : D) : List D := xs.take p ++ [e] ++ xs.drop (p + 1)
theorem put_len {xs : List D} {p : Nat} (h : p < xs.length) (e : D) : (putD xs p e).length = xs.length := by
  simp [putD]
  omega
theorem put_mem {xs : List D} {p : Nat} {e x : D} (h : x ∈ putD xs p e) : x ∈ xs ∨ x = e := by
  unfold putD at h
  rcases List.mem_append.mp h with h | h
  · rcases List.mem_append.mp h with h | h
    · exact .inl (List.mem_of_mem_take h)
    · exact .inr (List.mem_singleton.mp h)
  · exact .inl (List.mem_of_mem_drop h)
theorem add1 {xs : List D} {p : Nat} (h : p < xs.length) (hl : xs.length ≤ 1000) (e : D) (M : MM) : oAdd M (.tup (xs.take p)) (.tup [e]) = some (.tup (xs.take p ++ [e])) := oAdd_tt M (by simp; omega)
theorem add2 {xs : List D} {p : Nat} (h : p < xs.length) (hl : xs.length ≤ 1000) (e : D) (M : MM) : oAdd M (.tup (xs.take p ++ [e])) (.tup (xs.drop (p + 1))) = some (.tup (putD xs p e)) := oAdd_tt M (by simp; omega)
theorem add3 {xs : List D} {p : Nat} (h : p < xs.length) (hl : xs.length ≤ 1000) (M : MM) : oAdd M (.tup (xs.take p)) (.tup (xs.drop (p + 1))) = some (.tup (xs.take p ++ xs.drop (p + 1))) := oAdd_tt M (by simp; omega)
def bIn (cl : Fid → FC) : FE := (mIf (mOp oEq (mOp oIx (mVar 4) (mC (.int 0))) (mC (.str "ask"))) (mCall (cl .Lbent) (mCons (mVar 0) (mCons (mVar 6) mNil))) (mOp oAdd (mSl (mVar 6) (mPart (mC (.int 1))) mNo) (mTup (mCons (mVar 2) mNil))))
def bMore (cl : Fid → FC) : FS := (mIfS (mB (mIs "tuple" (mVar 6))) (mAsg (mOp oAdd (mVar 7) (mOp oMul (mLst (mCons (mOp oAdd (mOp oAdd (mSl (mVar 4) mNo (mPart (mVar 5))) (mTup (mCons (bIn cl) mNil))) (mSl (mVar 4) (mPart (mOp oAdd (mVar 5) (mC (.int 1)))) mNo)) mNil)) (mC (.int 3)))) (tgName 7)) mSkip)
def bChoices : FS := (mAsg (mLst (mCons (mOp oAdd (mOp oAdd (mSl (mVar 4) mNo (mPart (mVar 5))) (mTup (mCons (mVar 2) mNil))) (mSl (mVar 4) (mPart (mOp oAdd (mVar 5) (mC (.int 1)))) mNo)) (mCons (mOp oAdd (mSl (mVar 4) mNo (mPart (mVar 5))) (mSl (mVar 4) (mPart (mOp oAdd (mVar 5) (mC (.int 1)))) mNo)) (mCons (mOp oAdd (mVar 4) (mTup (mCons (mVar 2) mNil))) (mCons (mFn oList (mCons (mVar 4) mNil)) mNil))))) (tgName 7))
def bLast (cl : Fid → FC) : FS := (mRet (mOp oAdd (mOp oAdd (mSl (mVar 1) mNo (mPart (mVar 3))) (mTup (mCons (mCall (cl .Lsome) (mCons (mVar 0) (mCons (mVar 7) mNil))) mNil))) (mSl (mVar 1) (mPart (mOp oAdd (mVar 3) (mC (.int 1)))) mNo)))
def bEnd (cl : Fid → FC) : FS := (mRet (mCall (cl .Lsome) (mCons (mVar 0) (mCons (mLst (mCons (mVar 2) (mCons (mOp oAdd (mVar 1) (mTup (mCons (mVar 2) mNil))) (mCons (mFn oList (mCons (mVar 1) mNil)) (mCons (mTup (mCons (mVar 1) mNil)) (mCons (mOp oAdd (mOp oAdd (mOp oAdd (mVar 1) (mVar 1)) (mVar 1)) (mVar 1)) mNil)))))) mNil))))
def bCond (cl : Fid → FC) : FB := (mB (mOr (mOp oEq (mVar 1) (mTup mNil)) (mOp oEq (mCall (cl .Lroll) (mCons (mVar 0) (mCons (mC (.int 6)) mNil))) (mC (.int 0)))))
def bOdd (cl : Fid → FC) : FS := (mAsg (mCall (cl .Lsome) (mCons (mVar 0) (mCons (mLst (mCons (mUn oNeg (mC (.int 1))) (mCons (mC (.int 0)) (mCons (mC (.int 1)) (mCons (mC (.int 2)) (mCons (mC (.int 3)) (mCons (mC .non) (mCons (mC (.bl true)) (mCons (mC (.str "tie")) (mCons (mC (.str "ask")) (mCons (mC (.str "know")) (mCons (mTup mNil) (mCons (mTup (mCons (mC (.int 0)) (mCons (mC (.int 1)) mNil))) (mCons (mTup (mCons (mC (.int 0)) (mCons (mC (.int 1)) (mCons (mC (.int 1)) (mCons (mC (.int 0)) mNil))))) mNil)))))))))))))) mNil))) (tgName 2))
theorem bent_eq (cl : Fid → FC) : B_Lbent cl = mSeq (bOdd cl) (mSeq (mIfS (bCond cl) (bEnd cl) mSkip)
    (mSeq (mAsg (mCall (cl .Lroll) (mCons (mVar 0) (mCons (mFn oLen (mCons (mVar 1) mNil)) mNil))) (tgName 3))
    (mSeq (mAsg (mOp oIx (mVar 1) (mVar 3)) (tgName 4))
    (mSeq (mAsg (mCall (cl .Lroll) (mCons (mVar 0) (mCons (mFn oLen (mCons (mVar 4) mNil)) mNil))) (tgName 5))
    (mSeq (mAsg (mOp oIx (mVar 4) (mVar 5)) (tgName 6))
    (mSeq bChoices (mSeq (bMore cl) (bLast cl)))))))) := rfl
def beN (xs : List D) (e2 e3 e4 e5 e6 e7 : Option D) : En := [some (.mu 0), some (.tup xs), e2, e3, e4, e5, e6, e7]
theorem b_odd {cl : Fid → FC} (g : Gen cl) (xs : List D) {M : MM} (c : Cup M) : ∃ o M', bOdd cl (beN xs none none none none none none) M = some (.nx (beN xs (some o) none none none none none), M') ∧ good 1 o = true ∧ Cup M' := by
  obtain ⟨o, M', e, ho, c'⟩ := g.one c [.int (-1), .int 0, .int 1, .int 2, .int 3, .non, .bl true, .str "tie", .str "ask", .str "know", .tup [], .tup [.int 0, .int 1], .tup [.int 0, .int 1, .int 1, .int 0]] (by simp) (by simp)
  refine ⟨o, M', ?_, ?_, c'⟩
  · unfold bOdd beN
    simp only [mAsg, mCall, mCons, mNil, mVar, mC, mUn, oNeg, mLst, mTup, tgName, List.getElem?_cons_zero, List.getElem?_cons_succ, List.set_cons_zero, List.set_cons_succ, e]
  · simp only [List.mem_cons, List.not_mem_nil, or_false] at ho
    rcases ho with rfl | rfl | rfl | rfl | rfl | rfl | rfl | rfl | rfl | rfl | rfl | rfl | rfl <;> decide +kernel
theorem b_cond {cl : Fid → FC} (g : Gen cl) {n : Nat} {xs : List D} (hg : good n (.tup xs) = true) (hn : n ≤ 60) (o : D) {M : MM} (c : Cup M) : ∃ b M', bCond cl (beN xs (some o) none none none none none) M = some (b, M') ∧ (b = false → xs ≠ []) ∧ Cup M' := by
  have e1 := oEq_unit (M := M) hg (by omega)
  cases xs with
  | nil =>
    refine ⟨true, M, ?_, fun h => (by cases h), c⟩
    unfold bCond beN
    simp only [mB, mOr, mOp, mCons, mNil, mVar, mC, mTup, List.getElem?_cons_zero, List.getElem?_cons_succ, e1, List.isEmpty_nil]
  | cons x xs =>
    obtain ⟨r, M1, a1, _, c1⟩ := g.roll c 6 (by decide) (by decide)
    have a1' : cl .Lroll [.mu 0, .int 6] M = some (.int r, M1) := a1
    refine ⟨(r : Int) == 0, M1, ?_, fun _ => by simp, c1⟩
    unfold bCond beN
    have e2 : oEq M1 (.int r) (.int 0) = some (.bl ((r : Int) == 0)) := rfl
    simp only [mB, mOr, mOp, mCons, mNil, mVar, mC, mTup, mCall, List.getElem?_cons_zero, List.getElem?_cons_succ, e1, List.isEmpty_cons, a1', e2]
theorem b_end {cl : Fid → FC} (g : Gen cl) {n : Nat} {xs : List D} (hg : good (n + 1) (.tup xs) = true) (hl : xs.length ≤ 200) {o : D} (ho : good 1 o = true) {M : MM} (c : Cup M) : ∃ v M', bEnd cl (beN xs (some o) none none none none none) M = some (.rt v, M') ∧ good (n + 3) v = true ∧ Cup M' := by
  obtain ⟨v, M', e, hv, c'⟩ := g.one c [o, .tup (xs ++ [o]), .lst xs, .tup [.tup xs], .tup (xs ++ xs ++ xs ++ xs)] (by simp) (by simp)
  obtain ⟨k, hk, _, hx⟩ := good_tup hg
  have hk' : k = n := by omega
  subst hk'
  refine ⟨v, M', ?_, ?_, c'⟩
  · unfold bEnd beN
    have o1 := oAdd_tt (xs := xs) (ys := [o]) M (by simp; omega)
    have o2 := oAdd_tt (xs := xs) (ys := xs) M (by omega)
    have o3 := oAdd_tt (xs := xs ++ xs) (ys := xs) M (by simp; omega)
    have o4 := oAdd_tt (xs := xs ++ xs ++ xs) (ys := xs) M (by simp; omega)
    simp only [mRet, mCall, mCons, mNil, mVar, mC, mOp, mFn, oList, mLst, mTup, List.getElem?_cons_zero, List.getElem?_cons_succ, o1, o2, o3, o4, e]
  · simp only [List.mem_cons, List.not_mem_nil, or_false] at hv
    rcases hv with rfl | rfl | rfl | rfl | rfl
    · exact good_mono ho (by omega)
    · refine good_mono (mk_tup (k := k + 1) (fun x h => ?_) (by simp; omega)) (by omega)
      rcases List.mem_append.mp h with h | h
      · exact good_mono (hx x h) (by omega)
      · rw [List.mem_singleton.mp h]
        exact good_mono ho (by omega)
    · exact good_mono (mk_lst hx (by omega)) (by omega)
    · refine good_mono (mk_tup (k := k + 1) (fun x h => ?_) (by simp)) (by omega)
      rw [List.mem_singleton.mp h]
      exact hg
    · refine good_mono (mk_tup (k := k) (fun x h => ?_) (by simp; omega)) (by omega)
      simp only [List.mem_append] at h
      rcases h with ((h | h) | h) | h <;> exact hx x h
/-- the choices -/
theorem b_choices (xs its : List D) (o v : D) (t p : Nat) (hp : p < its.length) (hl : its.length ≤ 5) {n : Nat} (hi : ∀ x ∈ its, good n x = true) (ho : good 1 o = true) (M : MM) :
    ∃ cs, bChoices (beN xs (some o) (some (.int t)) (some (.tup its)) (some (.int p)) (some v) none) M = some (.nx (beN xs (some o) (some (.int t)) (some (.tup its)) (some (.int p)) (some v) (some (.lst cs))), M) ∧ cs.length = 4 ∧ ∀ x ∈ cs, good (n + 2) x = true := by
  refine ⟨[.tup (putD its p o), .tup (its.take p ++ its.drop (p + 1)), .tup (its ++ [o]), .lst its], ?_, rfl, ?_⟩
  · unfold bChoices beN
    have o1 := add1 hp (by omega) o M
    have o2 := add2 hp (by omega) o M
    have o3 := add3 hp (by omega) M
    have o4 := oAdd_tt (xs := its) (ys := [o]) M (by simp; omega)
    have o5 : oAdd M (.int p) (.int 1) = some (.int ((p : Int) + 1)) := rfl
    have s1 := cut_lo (xs := its) (k := p) (by omega)
    have s2 := cut_hi1 (xs := its) (k := p) (by omega)
    simp only [mAsg, mSl, mPart, mNo, oSl, mCons, mNil, mVar, mC, mOp, mFn, oList, mLst, mTup, tgName, List.getElem?_cons_zero, List.getElem?_cons_succ, List.set_cons_zero, List.set_cons_succ, o5, s1, s2, o1, o2, o3, o4]
  · intro x hx
    simp only [List.mem_cons, List.not_mem_nil, or_false] at hx
    rcases hx with rfl | rfl | rfl | rfl
    · refine mk_tup (k := n + 1) (fun x h => ?_) (by rw [put_len hp]; omega)
      rcases put_mem h with h | rfl
      · exact good_mono (hi x h) (by omega)
      · exact good_mono ho (by omega)
    · refine mk_tup (k := n + 1) (fun x h => ?_) (by simp; omega)
      rcases List.mem_append.mp h with h | h
      · exact good_mono (hi x (List.mem_of_mem_take h)) (by omega)
      · exact good_mono (hi x (List.mem_of_mem_drop h)) (by omega)
    · refine mk_tup (k := n + 1) (fun x h => ?_) (by simp; omega)
      rcases List.mem_append.mp h with h | h
      · exact good_mono (hi x h) (by omega)
      · rw [List.mem_singleton.mp h]
        exact good_mono ho (by omega)
    · exact good_mono (mk_lst hi (by omega)) (by omega)
theorem b_more {cl : Fid → FC} (xs its cs : List D) (o v : D) (t p : Nat) (hp : p < its.length) (hl : its.length ≤ 5) (hc : cs.length = 4) {n : Nat} (hi : ∀ x ∈ its, good n x = true) {M : MM} (c : Cup M)
    (hcs : ∀ x ∈ cs, good (n + 3) x = true)
    (hin : ∀ vs, v = .tup vs → ∃ e M', bIn cl (beN xs (some o) (some (.int t)) (some (.tup its)) (some (.int p)) (some v) (some (.lst cs))) M = some (e, M') ∧ good (n + 2) e = true ∧ Cup M') :
    ∃ ds M', bMore cl (beN xs (some o) (some (.int t)) (some (.tup its)) (some (.int p)) (some v) (some (.lst cs))) M = some (.nx (beN xs (some o) (some (.int t)) (some (.tup its)) (some (.int p)) (some v) (some (.lst ds))), M') ∧ ds ≠ [] ∧ ds.length ≤ 7 ∧ (∀ x ∈ ds, good (n + 3) x = true) ∧ Cup M' := by
  have hne : cs ≠ [] := by
    intro h
    subst h
    cases hc
  by_cases hv : ∃ vs, v = .tup vs
  · obtain ⟨vs, rfl⟩ := hv
    obtain ⟨e, M', q, he, c'⟩ := hin vs rfl
    refine ⟨cs ++ [.tup (putD its p e), .tup (putD its p e), .tup (putD its p e)], M', ?_, by simp, by simp; omega, ?_, c'⟩
    · unfold beN at q
      unfold bMore beN
      have o1 := fun M => add1 hp (by omega) e M
      have o2 := fun M => add2 hp (by omega) e M
      have o5 : ∀ M, oAdd M (.int p) (.int 1) = some (.int ((p : Int) + 1)) := fun M => rfl
      have s1 := cut_lo (xs := its) (k := p) (by omega)
      have s2 := cut_hi1 (xs := its) (k := p) (by omega)
      have m3 : ∀ (M : MM) (d : D), oMul M (.lst [d]) (.int 3) = some (.lst [d, d, d]) := fun M d => rfl
      have o6 := fun M d => oAdd_ll (xs := cs) (ys := [d, d, d]) M (by simp; omega)
      have i1 : isT "tuple" (.tup vs) = true := by simp [isT]
      simp only [mIfS, mB, mIs, mAsg, mSl, mPart, mNo, oSl, mCons, mNil, mVar, mC, mOp, mLst, mTup, tgName, List.getElem?_cons_zero, List.getElem?_cons_succ, List.set_cons_zero, List.set_cons_succ, i1, q, o5, s1, s2, o1, o2, m3, o6]
    · intro x hx
      have hd : good (n + 3) (.tup (putD its p e)) = true := by
        refine mk_tup (k := n + 2) (fun x h => ?_) (by rw [put_len hp]; omega)
        rcases put_mem h with h | rfl
        · exact good_mono (hi x h) (by omega)
        · exact he
      rcases List.mem_append.mp hx with h | h
      · exact hcs x h
      · simp only [List.mem_cons, List.not_mem_nil, or_false] at h
        rcases h with rfl | rfl | rfl <;> exact hd
  · refine ⟨cs, M, ?_, hne, by omega, hcs, c⟩
    unfold bMore beN
    have i1 : isT "tuple" v = false := by
      cases v with
      | tup vs => exact absurd ⟨vs, rfl⟩ hv
      | _ => simp [isT]
    simp only [mIfS, mB, mIs, mVar, mSkip, List.getElem?_cons_zero, List.getElem?_cons_succ, i1]
theorem b_last {cl : Fid → FC} (g : Gen cl) (xs its ds : List D) (o v : D) (t p : Nat) (ht : t < xs.length) (hl : xs.length ≤ 200) (hne : ds ≠ []) (hd : ds.length ≤ 7) {n : Nat} (hx : ∀ x ∈ xs, good (n + 3) x = true) (hds : ∀ x ∈ ds, good (n + 3) x = true) {M : MM} (c : Cup M) :
    ∃ w M', bLast cl (beN xs (some o) (some (.int t)) (some (.tup its)) (some (.int p)) (some v) (some (.lst ds))) M = some (.rt w, M') ∧ good (n + 4) w = true ∧ Cup M' := by
  obtain ⟨d, M', e, hdm, c'⟩ := g.one c ds hne (by omega)
  refine ⟨.tup (putD xs t d), M', ?_, ?_, c'⟩
  · unfold bLast beN
    have o1 := fun M => add1 ht (by omega) d M
    have o2 := fun M => add2 ht (by omega) d M
    have o5 : ∀ M, oAdd M (.int t) (.int 1) = some (.int ((t : Int) + 1)) := fun M => rfl
    have s1 := cut_lo (xs := xs) (k := t) (by omega)
    have s2 := cut_hi1 (xs := xs) (k := t) (by omega)
    simp only [mRet, mCall, mSl, mPart, mNo, oSl, mCons, mNil, mVar, mC, mOp, mTup, List.getElem?_cons_zero, List.getElem?_cons_succ, e, o5, s1, s2, o1, o2]
  · refine mk_tup (k := n + 3) (fun x h => ?_) (by rw [put_len ht]; omega)
    rcases put_mem h with h | rfl
    · exact hx x h
    · exact hds _ hdm
theorem nth_of {xs : List D} {t : Nat} (h : t < xs.length) : ∃ x, x ∈ xs ∧ atI xs (t : Int) = some x :=
  ⟨xs[t], List.getElem_mem h, atI_nat (List.getElem?_eq_getElem h)⟩
/-- a script bent -/
def PB (named : Int) (s : Nat) : Prop := ∀ (n : Nat) (xs : List D) (a b c : Nat), n ≤ 50 → good n (.tup xs) = true → scM named s (.tup xs) = some (a, b, c) → a + b ≤ 30 → ∀ (m : Nat) {M : MM}, Cup M → ∃ v M', G (m + s + 4) .Lbent [.mu 0, .tup xs] M = some (v, M') ∧ good (n + 2) v = true ∧ Cup M'
theorem g_bent {named : Int} : ∀ (s : Nat), PB named s
  | 0 => fun n xs a b c _ _ h => by cases h
  | s + 1 => fun n xs a b c hn hg h hab m => by
    intro M cu
    have ih : PB named s := g_bent s
    have g : Gen (G (m + s + 4)) := gen_ok (m + s + 1)
    obtain ⟨n1, rfl, hl1000, hx⟩ := good_tup hg
    have hsum : sumM (itM named (scM named s)) xs = some (a, b, c) := h
    have hlen : xs.length ≤ 30 := Nat.le_trans (len_sum (fun y _ a b c h => itM_pos h) hsum) hab
    have ihc : ∀ (n : Nat) (y : D) (a b c : Nat), n ≤ 50 → good n y = true → scM named s y = some (a, b, c) → a + b ≤ 30 → ∀ {M : MM}, Cup M → ∃ v M', G (m + s + 4) .Lbent [.mu 0, y] M = some (v, M') ∧ good (n + 2) v = true ∧ Cup M' := fun n y a b c hn hg h hab {M} cu => by
      cases s with
      | zero => cases h
      | succ s' =>
        cases y with
        | tup ys => exact ih n ys a b c hn hg h hab m cu
        | _ => cases h
    show ∃ v M', mFun 8 (B_Lbent (G (m + s + 4))) [.mu 0, .tup xs] M = some (v, M') ∧ good (n1 + 1 + 2) v = true ∧ Cup M'
    generalize G (m + s + 4) = cl at *
    obtain ⟨o, M1, q1, ho, c1⟩ := b_odd g xs cu
    obtain ⟨bb, M2, q2, hbb, c2⟩ := b_cond g hg (by omega) o c1
    have st : startD 8 [.mu 0, .tup xs] = beN xs none none none none none none := rfl
    rw [bent_eq]
    unfold mFun
    rw [st]
    cases bb with
    | true =>
      obtain ⟨v, M3, q3, hv, c3⟩ := b_end g hg (by omega) ho c2
      refine ⟨v, M3, ?_, hv, c3⟩
      simp only [mSeq, mIfS, q1, q2, q3]
    | false =>
      have hne := hbb rfl
      have hpos : 1 ≤ xs.length := by
        cases xs with
        | nil => exact absurd rfl hne
        | cons x xs => simp
      obtain ⟨t, M3, q3, ht, c3⟩ := g.roll c2 xs.length hpos (by omega)
      obtain ⟨it, hmem, hat⟩ := nth_of ht
      obtain ⟨a1, b1, cc1, hit, la, lb⟩ := sum_mem hsum it hmem
      obtain ⟨its, rfl, l1, l5, hcase⟩ := it_more hit
      have hgi := hx _ hmem
      obtain ⟨n2, rfl, _, hits⟩ := good_tup hgi
      obtain ⟨p, M4, q4, hp, c4⟩ := g.roll c3 its.length l1 (by omega)
      obtain ⟨v, hvm, hav⟩ := nth_of hp
      obtain ⟨cs, q5, hcl, hcs⟩ := b_choices xs its o v t p hp l5 hits ho M4
      have hin : ∀ vs, v = .tup vs → ∃ e M', bIn cl (beN xs (some o) (some (.int t)) (some (.tup its)) (some (.int p)) (some v) (some (.lst cs))) M4 = some (e, M') ∧ good (n2 + 2) e = true ∧ Cup M' := by
        intro vs hvs
        subst hvs
        have hgv := hits _ hvm
        obtain ⟨n3, rfl, hlv, hvv⟩ := good_tup hgv
        rcases hcase with ⟨hh, r, rfl, hask⟩ | ⟨hh, i, j, y, z, a3, b3, c3', a4, b4, c4', rfl, hask, hy, hz, ea, eb⟩
        · have e1 := oEq_str (M := M4) (okD_of (hits hh List.mem_cons_self) (by omega)) ok_ask
          refine ⟨.tup (vs.tail ++ [o]), M4, ?_, ?_, c4⟩
          · unfold bIn beN
            have o1 := oAdd_tt (xs := vs.tail) (ys := [o]) M4 (by simp; omega)
            simp only [mIf, mSl, mPart, mNo, oSl, mCons, mNil, mVar, mC, mOp, mTup, List.getElem?_cons_zero, List.getElem?_cons_succ, oIx, at0, e1, hask, cut_tl, o1]
          · refine mk_tup (k := n3 + 1 + 1) (fun x h => ?_) (by simp; omega)
            rcases List.mem_append.mp h with h | h
            · exact good_mono (hvv x (List.mem_of_mem_tail h)) (by omega)
            · rw [List.mem_singleton.mp h]
              exact good_mono ho (by omega)
        · have e1 := oEq_str (M := M4) (okD_of (hits hh List.mem_cons_self) (by omega)) ok_ask
          have hb : ∃ e M', cl .Lbent [.mu 0, .tup vs] M4 = some (e, M') ∧ good (n3 + 1 + 2) e = true ∧ Cup M' := by
            simp only [List.mem_cons, List.not_mem_nil, or_false] at hvm
            rcases hvm with rfl | hv2 | hv2 | rfl | rfl
            · cases hask
            · cases hv2
            · cases hv2
            · exact ihc (n3 + 1) _ _ _ _ (by omega) hgv hy (by omega) c4
            · exact ihc (n3 + 1) _ _ _ _ (by omega) hgv hz (by omega) c4
          obtain ⟨e, M', q, he, c'⟩ := hb
          refine ⟨e, M', ?_, he, c'⟩
          unfold bIn beN
          simp only [mIf, mCons, mNil, mVar, mC, mOp, mCall, List.getElem?_cons_zero, List.getElem?_cons_succ, oIx, at0, e1, hask, q]
      obtain ⟨ds, M5, q6, dne, dl, hds, c5⟩ := b_more xs its cs o v t p hp l5 hcl hits c4 (fun x h => good_mono (hcs x h) (by omega)) hin
      obtain ⟨w, M6, q7, hw, c6⟩ := b_last g xs its ds o v t p ht (by omega) dne dl (fun x h => good_mono (hx x h) (by omega)) hds c5
      refine ⟨w, M6, ?_, hw, c6⟩
      unfold beN at *
      simp only [mSeq, mIfS, mSkip, mAsg, mCall, mCons, mNil, mVar, mOp, mFn, oLen, oIx, tgName, List.getElem?_cons_zero, List.getElem?_cons_succ, List.set_cons_zero, List.set_cons_succ, q1, q2, q3, hat, q4, hav, q5, q6, q7]
end MT

namespace MT
open PySem PySem.Spec PyProof.Rows L2 ML
def law1 : FS := (mAsg (mTup (mCons (mTup (mCons (mC (.str "pairs")) (mCons (mC (.int 0)) (mCons (mTup (mCons (mC (.int 0)) (mCons (mC (.int 0)) (mCons (mC (.int 1)) (mCons (mC (.int 1)) (mCons (mC (.int 1)) (mCons (mC (.int 1)) mNil))))))) mNil)))) (mCons (mTup (mCons (mC (.str "tie")) (mCons (mC (.int 0)) (mCons (mC (.int 1)) (mCons (mC (.str "turn")) mNil))))) mNil))) (tgTup 2 (tgCons (tgName 11) (tgCons (tgName 12) tgNil))))
def law2 : FS := (mAsg (mTup mNil) (tgName 7))
def law3 : FS := (mForR rng1 (mCons (mC (.int 4)) mNil) (tgName 2) (mAsg (mTup (mCons (mTup (mCons (mC (.str "ask")) (mCons (mC (.int 0)) (mCons (mC (.int 1)) (mCons (mVar 7) (mCons (mTup (mCons (mVar 12) mNil)) mNil)))))) mNil)) (tgName 7)))
def law4 : FS := (mAsg (mLst (mCons (mTup (mCons (mC (.int 2)) (mCons (mTup mNil) (mCons (mC (.bl true)) mNil)))) (mCons (mTup (mCons (mC (.int 1)) (mCons (mTup (mCons (mVar 11) mNil)) (mCons (mC (.bl true)) mNil)))) (mCons (mTup (mCons (mC (.int 1)) (mCons (mTup (mCons (mVar 12) mNil)) (mCons (mC (.bl false)) mNil)))) (mCons (mTup (mCons (mC (.int 2)) (mCons (mOp oMul (mTup (mCons (mVar 12) mNil)) (mC (.int 30))) (mCons (mC (.bl true)) mNil)))) (mCons (mTup (mCons (mC (.int 2)) (mCons (mOp oMul (mTup (mCons (mVar 12) mNil)) (mC (.int 31))) (mCons (mC (.bl false)) mNil)))) (mCons (mTup (mCons (mC (.int 2)) (mCons (mVar 7) (mCons (mC (.bl true)) mNil)))) (mCons (mTup (mCons (mC (.int 2)) (mCons (mTup (mCons (mTup (mCons (mC (.str "ask")) (mCons (mC (.int 1)) (mCons (mC (.int 0)) (mCons (mVar 7) (mCons (mTup mNil) mNil)))))) mNil)) (mCons (mC (.bl false)) mNil)))) mNil)))))))) (tgName 13))
def law5 : FS := (mAsg (mOp oAdd (mVar 13) (mLst (mCons (mTup (mCons (mC (.int 2)) (mCons (mTup (mCons (mTup (mCons (mC (.str "ask")) (mCons (mC (.int 0)) (mCons (mC (.int 0)) (mCons (mTup mNil) (mCons (mTup mNil) mNil)))))) mNil)) (mCons (mC (.bl false)) mNil)))) (mCons (mTup (mCons (mC (.int 1)) (mCons (mTup (mCons (mTup (mCons (mC (.str "ask")) (mCons (mC (.int 0)) (mCons (mC (.int 0)) (mCons (mTup mNil) (mCons (mTup mNil) mNil)))))) mNil)) (mCons (mC (.bl false)) mNil)))) (mCons (mTup (mCons (mC (.int 2)) (mCons (mTup (mCons (mTup (mCons (mC (.str "tie")) (mCons (mC (.int 0)) (mCons (mC (.int 2)) (mCons (mC (.str "know")) mNil))))) mNil)) (mCons (mC (.bl false)) mNil)))) (mCons (mTup (mCons (mC (.int 3)) (mCons (mTup (mCons (mTup (mCons (mC (.str "tie")) (mCons (mC (.int 2)) (mCons (mC (.int 0)) (mCons (mC (.str "know")) mNil))))) mNil)) (mCons (mC (.bl true)) mNil)))) mNil)))))) (tgName 13))
def law6 : FS := (mAsg (mOp oAdd (mVar 13) (mLst (mCons (mTup (mCons (mC (.int 2)) (mCons (mTup (mCons (mTup (mCons (mC (.str "ask")) (mCons (mC (.int 0)) (mCons (mC (.int 1)) (mCons (mOp oMul (mTup (mCons (mVar 12) mNil)) (mC (.int 15))) (mCons (mOp oMul (mTup (mCons (mVar 12) mNil)) (mC (.int 14))) mNil)))))) mNil)) (mCons (mC (.bl true)) mNil)))) (mCons (mTup (mCons (mC (.int 2)) (mCons (mTup (mCons (mTup (mCons (mC (.str "ask")) (mCons (mC (.int 0)) (mCons (mC (.int 1)) (mCons (mOp oMul (mTup (mCons (mVar 12) mNil)) (mC (.int 15))) (mCons (mOp oMul (mTup (mCons (mVar 12) mNil)) (mC (.int 15))) mNil)))))) mNil)) (mCons (mC (.bl false)) mNil)))) (mCons (mTup (mCons (mC (.int 2)) (mCons (mTup (mCons (mTup (mCons (mC (.str "tie")) (mCons (mC (.int 0)) (mCons (mC (.int 1)) (mCons (mC (.str "knows")) mNil))))) mNil)) (mCons (mC (.bl false)) mNil)))) mNil))))) (tgName 13))
def law7 : FS := (mAsg (mOp oAdd (mVar 13) (mLst (mCons (mTup (mCons (mC (.int 2)) (mCons (mTup (mCons (mTup (mCons (mC (.str "pairs")) (mCons (mC (.int 2)) (mCons (mOp oMul (mTup (mCons (mC (.int 0)) mNil)) (mC (.int 6))) mNil)))) mNil)) (mCons (mC (.bl false)) mNil)))) (mCons (mTup (mCons (mC (.int 2)) (mCons (mTup (mCons (mTup (mCons (mC (.str "pairs")) (mCons (mC (.int 1)) (mCons (mOp oMul (mTup (mCons (mC (.int 0)) mNil)) (mC (.int 5))) mNil)))) mNil)) (mCons (mC (.bl false)) mNil)))) (mCons (mTup (mCons (mC (.int 2)) (mCons (mTup (mCons (mTup (mCons (mC (.str "takes")) (mCons (mC (.int 0)) (mCons (mC (.int 1)) (mCons (mTup (mCons (mC (.int 0)) (mCons (mC (.int 1)) (mCons (mC (.int 2)) (mCons (mC (.int 0)) mNil))))) mNil))))) mNil)) (mCons (mC (.bl false)) mNil)))) (mCons (mTup (mCons (mC (.int 2)) (mCons (mTup (mCons (mTup (mCons (mC (.str "takes")) (mCons (mC (.int 0)) (mCons (mC (.int 1)) (mCons (mTup (mCons (mC (.int 0)) (mCons (mC (.int 1)) (mCons (mC (.bl true)) (mCons (mC (.int 0)) mNil))))) mNil))))) mNil)) (mCons (mC (.bl false)) mNil)))) mNil)))))) (tgName 13))
def law8 (cl : Fid → FC) : FS := (mIfS (mB (mOp oNe (mLc itemsL (mVar 13) (tgTup 3 (tgCons (tgName 3) (tgCons (tgName 9) (tgCons (tgName 14) tgNil)))) (mB (mOp oNe (mCall (cl .p_is_script) (mCons (mVar 3) (mCons (mVar 9) mNil))) (mVar 14))) (mC (.int 1)) [3, 9, 14]) (mLst mNil))) (mRet (mC (.bl false))) mSkip)
def law9 (cl : Fid → FC) : FS := (mRet (mAnd (mOp oEq (mCall (cl .p_depth_of) (mCons (mC (.int 2)) (mCons (mVar 7) mNil))) (mC (.int 4))) (mAnd (mOp oEq (mCall (cl .p_count_deeds) (mCons (mC (.int 2)) (mCons (mVar 7) mNil))) (mTup (mCons (mC (.int 4)) (mCons (mC (.int 4)) mNil)))) (mAnd (mOp oEq (mCall (cl .p_depth_of) (mCons (mC (.int 2)) (mCons (mTup mNil) mNil))) (mC (.int 0))) (mOp oEq (mCall (cl .p_count_deeds) (mCons (mC (.int 3)) (mCons (mTup (mCons (mVar 12) (mCons (mVar 11) (mCons (mVar 12) mNil)))) mNil))) (mTup (mCons (mC (.int 3)) (mCons (mC (.int 0)) mNil))))))))
def lTurn (cl : Fid → FC) : FS := (mSeq (mAsg (mCall (cl .Lnamed) (mCons (mVar 1) mNil)) (tgName 3)) (mSeq (mAsg (mCall (cl .Lscript) (mCons (mVar 1) (mCons (mVar 3) (mCons (mC (.int 6)) (mCons (mC (.int 3)) mNil))))) (tgName 4)) (mSeq (mAsg (mCall (cl .Lmeasured) (mCons (mVar 3) (mCons (mVar 4) mNil))) (tgTup 3 (tgCons (tgName 5) (tgCons (tgName 6) (tgCons (tgName 7) tgNil))))) (mSeq (mIfS (mB (mOr (mOp oIsNot (mCall (cl .p_is_script) (mCons (mVar 3) (mCons (mVar 4) mNil))) (mC (.bl true))) (mOr (mOp oNe (mCall (cl .p_count_deeds) (mCons (mVar 3) (mCons (mVar 4) mNil))) (mTup (mCons (mVar 5) (mCons (mVar 6) mNil)))) (mOp oNe (mCall (cl .p_depth_of) (mCons (mVar 3) (mCons (mVar 4) mNil))) (mVar 7))))) (mRet (mC (.bl false))) mSkip) (mForR rng1 (mCons (mC (.int 4)) mNil) (tgName 8) (mSeq (mAsg (mCall (cl .Lbent) (mCons (mVar 1) (mCons (mVar 4) mNil))) (tgName 9)) (mSeq (mAsg (mCall (cl .p_is_script) (mCons (mVar 3) (mCons (mVar 9) mNil))) (tgName 10)) (mIfS (mB (mOr (mNot (mIs "bool" (mVar 10))) (mOp oNe (mVar 10) (mCall (cl .Ljudged) (mCons (mVar 3) (mCons (mVar 9) mNil)))))) (mRet (mC (.bl false))) mSkip))))))))
def lIn (cl : Fid → FC) : FS := (mSeq (mAsg (mCall (cl .Lbent) (mCons (mVar 1) (mCons (mVar 4) mNil))) (tgName 9)) (mSeq (mAsg (mCall (cl .p_is_script) (mCons (mVar 3) (mCons (mVar 9) mNil))) (tgName 10)) (mIfS (mB (mOr (mNot (mIs "bool" (mVar 10))) (mOp oNe (mVar 10) (mCall (cl .Ljudged) (mCons (mVar 3) (mCons (mVar 9) mNil)))))) (mRet (mC (.bl false))) mSkip)))
theorem law_eq (cl : Fid → FC) : B_Law cl = mMu 1 g_Lcup (mCons (mVar 0) mNil) (mSeq (mForR rng1 (mCons (mC (.int 6)) mNil) (tgName 2) (lTurn cl)) (mSeq (law1) (mSeq (law2) (mSeq (law3) (mSeq (law4) (mSeq (law5) (mSeq (law6) (mSeq (law7) (mSeq (law8 cl) (law9 cl)))))))))) := rfl
/-! ### the cup of the law -/
theorem g_lcup {ns : List Int} (hl : ns.length ≤ 63) : ∃ a b : Int, g_Lcup [.fz (ns.map D.int)] [] = some ([.int a, .int b], []) ∧ 0 ≤ a ∧ 0 ≤ b ∧ b < 1099511627776 := by
  have h0 : ∃ i : Int, atI (ns.map D.int ++ [D.int 0]) 0 = some (.int i) := by
    cases ns with
    | nil => exact ⟨0, at0 _ _⟩
    | cons x xs => exact ⟨x, at0 _ _⟩
  obtain ⟨i, hi⟩ := h0
  have hv : ∃ v : Int, (if i < 0 then -i else i) = v ∧ 0 ≤ v := by
    by_cases h : i < 0
    · exact ⟨-i, if_pos h, by omega⟩
    · exact ⟨i, if_neg h, by omega⟩
  obtain ⟨v, hv, hv0⟩ := hv
  have hb0 : 0 ≤ (v * 251 + 2111) % 2077503301 := Int.emod_nonneg _ (by decide)
  have hb1 : (v * 251 + 2111) % 2077503301 < 2077503301 := Int.emod_lt_of_pos _ (by decide)
  have l1 : (ns.map D.int).length + ([D.int 0] : List D).length ≤ 1000 := by simp; omega
  have oA := oAdd_ll (xs := ns.map D.int) (ys := [D.int 0]) [] l1
  have oB : oAbs [] [.int i] = some (.int v) := by
    rw [← hv]
    rfl
  have oM : oMul [] (.int v) (.int 251) = some (.int (v * 251)) := if_pos (.inr (by decide))
  have oP : oPow [] (.int 10) (.int 18) = some (.int 1000000000000000000) := by
    have q : (10 : Int) ^ (18 : Int).toNat = 1000000000000000000 := by decide +kernel
    show (if (0 : Int) ≤ 18 ∧ (18 : Int) ≤ 1000000 ∧ (10 : Int).natAbs < 2 ^ 64 then some (D.int ((10 : Int) ^ (18 : Int).toNat)) else none) = _
    rw [if_pos (by decide), q]
  have oR : ∀ x : Int, oMod [] (.int x) (.int 2077503301) = some (.int (x % 2077503301)) := fun x => by
    show (if (0 : Int) < 2077503301 then some (D.int (x % 2077503301)) else none) = _
    exact if_pos (by decide)
  have oD : oDiv [] (.int v) (.int 43) = some (.int (v / 43)) := by
    show (if (0 : Int) < 43 ∧ (43 : Int) < 1073741824 then some (D.int (v / 43)) else none) = _
    exact if_pos (by decide)
  have oC : ∀ x y : Int, oAdd [] (.int x) (.int y) = some (.int (x + y)) := fun _ _ => rfl
  have oN : ∀ x : Int, oInt [] [.int x] = some (.int x) := fun _ => rfl
  have oG : ∀ x y : Int, oGe [] (.int x) (.int y) = some (.bl (decide (y ≤ x))) := fun _ _ => rfl
  have s0 : startD 2 [.fz (ns.map D.int)] = [some (.fz (ns.map D.int)), none] := rfl
  by_cases hbig : (1000000000000000000 : Int) ≤ v
  · refine ⟨v / 43, (v * 251 + 2111) % 2077503301 + 137, ?_, Int.ediv_nonneg hv0 (by decide), by omega, by omega⟩
    unfold g_Lcup mFunF
    rw [s0]
    simp only [mAsg, mFn, mCons, mNil, mVar, mC, mOp, oIx, mLst, mIf, tgName, oList, List.getElem?_cons_zero, List.getElem?_cons_succ, List.set_cons_zero, List.set_cons_succ, oA, hi, oB, oM, oP, oR, oD, oC, oN, oG, decide_eq_true hbig]
  · refine ⟨0, (v * 251 + 2111) % 2077503301 + 137, ?_, by decide, by omega, by omega⟩
    unfold g_Lcup mFunF
    rw [s0]
    simp only [mAsg, mFn, mCons, mNil, mVar, mC, mOp, oIx, mLst, mIf, tgName, oList, List.getElem?_cons_zero, List.getElem?_cons_succ, List.set_cons_zero, List.set_cons_succ, oA, hi, oB, oM, oP, oR, oD, oC, oN, oG, decide_eq_false hbig]
/-! ### what the law asks of the defs -/
structure LawF (cl : Fid → FC) : Prop where
  named : ∀ {M : MM}, Cup M → ∃ (k : Nat) (M' : MM), cl .Lnamed [.mu 0] M = some (.int k, M') ∧ 1 ≤ k ∧ k ≤ 3 ∧ Cup M'
  script : ∀ {M : MM} (k : Nat), 1 ≤ k → k ≤ 3 → Cup M → ∃ xs M' a b c, cl .Lscript [.mu 0, .int k, .int 6, .int 3] M = some (.tup xs, M') ∧ good 9 (.tup xs) = true ∧ scM k 9 (.tup xs) = some (a, b, c) ∧ c ≤ 3 ∧ a + b ≤ 30 ∧ Cup M'
  measured : ∀ (k : Int) (d : D) (M : MM), good 9 d = true → cl .Lmeasured [.int k, d] M = some (mD (scM k 9 d), M)
  judged : ∀ (k : Int) (d : D) (M : MM), good 12 d = true → cl .Ljudged [.int k, d] M = some (.bl (scrB (scM k 12 d)), M)
  is_script : ∀ (k : Int) (d : D) (M : MM), namedB k → good 12 d = true → cl .p_is_script [.int k, d] M = some (.bl (scrB (scM k 12 d)), M)
  count : ∀ (k : Int) (d : D) (M : MM) (a b c : Nat), namedB k → good 12 d = true → scM k 12 d = some (a, b, c) → scrB (some (a, b, c)) = true → cl .p_count_deeds [.int k, d] M = some (.tup [.int a, .int b], M)
  depth : ∀ (k : Int) (d : D) (M : MM) (a b c : Nat), namedB k → good 12 d = true → scM k 12 d = some (a, b, c) → scrB (some (a, b, c)) = true → cl .p_depth_of [.int k, d] M = some (.int c, M)
  bent : ∀ (k : Int) (xs : List D) (a b c : Nat), good 9 (.tup xs) = true → scM k 9 (.tup xs) = some (a, b, c) → a + b ≤ 30 → ∀ {M : MM}, Cup M → ∃ v M', cl .Lbent [.mu 0, .tup xs] M = some (v, M') ∧ good 12 v = true ∧ Cup M'
theorem law41 : LawF (G 41) where
  named := fun {M} c => by
    obtain ⟨k, M', e, h, c'⟩ := cup_named 38 c
    refine ⟨k.toNat, M', ?_, ?_, ?_, c'⟩
    · have : ((k.toNat : Nat) : Int) = k := Int.toNat_of_nonneg (by have := h.1; omega)
      rw [this]
      exact e
    · have := h.1; omega
    · have := h.2; omega
  script := fun {M} k h1 h3 c => g_script h1 h3 30 c
  measured := fun k d M h => g_measured (named := k) (n := 9) (by decide) d h 28 M
  judged := fun k d M h => g_judged (named := k) (n := 12) (by decide) d h 24 M
  is_script := fun k d M hk h => g_is_script hk (n := 12) (by decide) d h 9 M
  count := fun k d M a b c hk h e hs => g_count_deeds hk (n := 12) (by decide) d h a b c e hs 8 M
  depth := fun k d M a b c hk h e hs => g_depth_of hk (n := 12) (by decide) d h a b c e hs 8 M
  bent := fun k xs a b c h e hab {M} cu => by
    obtain ⟨v, M', q, hv, c'⟩ := g_bent (named := k) 9 9 xs a b c (by decide) h e hab 28 cu
    exact ⟨v, M', q, good_mono hv (by decide), c'⟩
/-! ### the turns -/
def leN (l : List D) (e2 e3 e4 e5 e6 e7 e8 e9 e10 e11 e12 e13 e14 : Option D) : En := [some (.fz l), some (.mu 0), e2, e3, e4, e5, e6, e7, e8, e9, e10, e11, e12, e13, e14]
theorem oNe_bb (b : Bool) (M : MM) : oNe M (.bl b) (.bl b) = some (.bl false) := by
  cases b <;> rfl
theorem oNe_same (i : Int) (M : MM) : oNe M (.int i) (.int i) = some (.bl false) := by
  simp [oNe, oEq]
theorem oNe_pair (a b : Int) (M : MM) : oNe M (.tup [.int a, .int b]) (.tup [.int a, .int b]) = some (.bl false) := by
  have h : okD (.tup [.int a, .int b]) = true := okD_of (n := 1) (by simp [good]) (by decide)
  have : oEq M (.tup [.int a, .int b]) (.tup [.int a, .int b]) = some (.bl true) := by
    show (if (okD (.tup [.int a, .int b]) && okD (.tup [.int a, .int b])) = true then some (D.bl (oEqv (.tup [.int a, .int b]) (.tup [.int a, .int b]))) else none) = _
    rw [h]
    simp [oEqv, py, pys, PyData.eqv, PyData.eqvAll]
  unfold oNe
  rw [this]
  rfl
theorem l_in {cl : Fid → FC} (F : LawF cl) {l : List D} {k : Nat} (h1 : 1 ≤ k) (h3 : k ≤ 3) {xs : List D} {a b c : Nat} (hg : good 9 (.tup xs) = true) (hs : scM k 9 (.tup xs) = some (a, b, c)) (hab : a + b ≤ 30) (e2 e5 e6 e7 e11 e12 e13 e14 : Option D) : ∀ (ds : List D) (e8 e9 e10 : Option D) {M : MM}, Cup M →
    ∃ f8 f9 f10 M', forD (tgName 8) (lIn cl) ds (leN l e2 (some (.int k)) (some (.tup xs)) e5 e6 e7 e8 e9 e10 e11 e12 e13 e14) M = some (.nx (leN l e2 (some (.int k)) (some (.tup xs)) e5 e6 e7 f8 f9 f10 e11 e12 e13 e14), M') ∧ Cup M'
  | [], e8, e9, e10, M, cu => ⟨e8, e9, e10, M, rfl, cu⟩
  | d :: ds, e8, e9, e10, M, cu => by
    obtain ⟨v, M1, q1, hv, c1⟩ := F.bent k xs a b c hg hs hab cu
    have hk : namedB (k : Int) := ⟨by omega, by omega⟩
    have q2 := F.is_script k v M1 hk hv
    have q3 := F.judged k v M1 hv
    obtain ⟨f8, f9, f10, M2, q4, c2⟩ := l_in F h1 h3 hg hs hab e2 e5 e6 e7 e11 e12 e13 e14 ds (some d) (some v) (some (.bl (scrB (scM k 12 v)))) c1
    refine ⟨f8, f9, f10, M2, ?_, c2⟩
    rw [← q4]
    have i1 : ∀ b, isT "bool" (.bl b) = true := fun b => by simp [isT]
    have t1 : tgName 8 d (leN l e2 (some (.int k)) (some (.tup xs)) e5 e6 e7 e8 e9 e10 e11 e12 e13 e14) = some (leN l e2 (some (.int k)) (some (.tup xs)) e5 e6 e7 (some d) e9 e10 e11 e12 e13 e14) := rfl
    rw [forD, t1]
    have t2 : lIn cl (leN l e2 (some (.int k)) (some (.tup xs)) e5 e6 e7 (some d) e9 e10 e11 e12 e13 e14) M = some (.nx (leN l e2 (some (.int k)) (some (.tup xs)) e5 e6 e7 (some d) (some v) (some (.bl (scrB (scM k 12 v)))) e11 e12 e13 e14), M1) := by
      unfold lIn leN
      simp only [mSeq, mAsg, mIfS, mB, mOr, mNot, mIs, mSkip, mCall, mCons, mNil, mVar, mC, mOp, tgName, List.getElem?_cons_zero, List.getElem?_cons_succ, List.set_cons_zero, List.set_cons_succ, q1, q2, q3, i1, Bool.not_true, oNe_bb]
    dsimp only
    rw [t2]
theorem l_turn {cl : Fid → FC} (F : LawF cl) (l : List D) (e2 e3 e4 e5 e6 e7 e8 e9 e10 e11 e12 e13 e14 : Option D) {M : MM} (cu : Cup M) :
    ∃ f3 f4 f5 f6 f7 f8 f9 f10 M', lTurn cl (leN l e2 e3 e4 e5 e6 e7 e8 e9 e10 e11 e12 e13 e14) M = some (.nx (leN l e2 f3 f4 f5 f6 f7 f8 f9 f10 e11 e12 e13 e14), M') ∧ Cup M' := by
  obtain ⟨k, M1, q1, h1, h3, c1⟩ := F.named cu
  obtain ⟨xs, M2, a, b, c, q2, hg, hs, hc, hab, c2⟩ := F.script k h1 h3 c1
  have hk : namedB (k : Int) := ⟨by omega, by omega⟩
  have hg' : good 12 (.tup xs) = true := good_mono hg (by decide)
  have hs' : scM k 12 (.tup xs) = some (a, b, c) := scM_mono hs (by decide)
  have hB : scrB (some (a, b, c)) = true := by
    simp [scrB]
    omega
  have q3 := F.measured k (.tup xs) M2 hg
  rw [hs] at q3
  have q4 := F.is_script k (.tup xs) M2 hk hg'
  rw [hs', hB] at q4
  have q5 := F.count k (.tup xs) M2 a b c hk hg' hs' hB
  have q6 := F.depth k (.tup xs) M2 a b c hk hg' hs' hB
  obtain ⟨f8, f9, f10, M3, q7, c3⟩ := l_in F (l := l) h1 h3 hg hs hab e2 (some (.int a)) (some (.int b)) (some (.int c)) e11 e12 e13 e14 (rangeD 0 4) e8 e9 e10 c2
  refine ⟨some (.int k), some (.tup xs), some (.int a), some (.int b), some (.int c), f8, f9, f10, M3, ?_, c3⟩
  have r1 : rng1 [.int 4] = some (0, 4) := rng1_ok 4 (by decide)
  have r2 : ((4 : Int) - 0).toNat = 4 := by decide
  have n1 : oIsNot M2 (.bl true) (.bl true) = some (.bl false) := rfl
  have l3 : ([D.int a, .int b, .int c] : List D).length = 3 := rfl
  show mSeq _ (mSeq _ (mSeq _ (mSeq _ (mForR rng1 (mCons (mC (.int 4)) mNil) (tgName 8) (lIn cl))))) _ _ = _
  unfold leN at *
  simp only [mSeq, mAsg, mIfS, mB, mOr, mForR, mSkip, mCall, mCons, mNil, mVar, mC, mOp, mTup, tgName, tgTup, tgCons, tgNil, List.getElem?_cons_zero, List.getElem?_cons_succ, List.set_cons_zero, List.set_cons_succ, q1, q2, q3, mD, l3, if_true, q4, n1, q5, oNe_pair, q6, oNe_same, r1, r2, q7]
theorem l_turns {cl : Fid → FC} (F : LawF cl) (l : List D) (e11 e12 e13 e14 : Option D) : ∀ (ds : List D) (e2 e3 e4 e5 e6 e7 e8 e9 e10 : Option D) {M : MM}, Cup M →
    ∃ f2 f3 f4 f5 f6 f7 f8 f9 f10 M', forD (tgName 2) (lTurn cl) ds (leN l e2 e3 e4 e5 e6 e7 e8 e9 e10 e11 e12 e13 e14) M = some (.nx (leN l f2 f3 f4 f5 f6 f7 f8 f9 f10 e11 e12 e13 e14), M') ∧ Cup M'
  | [], e2, e3, e4, e5, e6, e7, e8, e9, e10, M, cu => ⟨e2, e3, e4, e5, e6, e7, e8, e9, e10, M, rfl, cu⟩
  | d :: ds, e2, e3, e4, e5, e6, e7, e8, e9, e10, M, cu => by
    obtain ⟨f3, f4, f5, f6, f7, f8, f9, f10, M1, q1, c1⟩ := l_turn F l (some d) e3 e4 e5 e6 e7 e8 e9 e10 e11 e12 e13 e14 cu
    obtain ⟨g2, g3, g4, g5, g6, g7, g8, g9, g10, M2, q2, c2⟩ := l_turns F l e11 e12 e13 e14 ds (some d) f3 f4 f5 f6 f7 f8 f9 f10 c1
    refine ⟨g2, g3, g4, g5, g6, g7, g8, g9, g10, M2, ?_, c2⟩
    rw [← q2]
    have t1 : tgName 2 d (leN l e2 e3 e4 e5 e6 e7 e8 e9 e10 e11 e12 e13 e14) = some (leN l (some d) e3 e4 e5 e6 e7 e8 e9 e10 e11 e12 e13 e14) := rfl
    rw [forD, t1]
    dsimp only
    rw [q1]
end MT

namespace MT
open PySem PySem.Spec PyProof.Rows L2 ML
def dI (n : Nat) : D := .int n
def dPairs : D := .tup [.str "pairs", .int 0, .tup [.int 0, .int 0, .int 1, .int 1, .int 1, .int 1]]
def dTie : D := .tup [.str "tie", .int 0, .int 1, .str "turn"]
def nest : Nat → D
  | 0 => .tup []
  | n + 1 => .tup [.tup [.str "ask", .int 0, .int 1, nest n, .tup [dTie]]]
def rep (n : Nat) (d : D) : D := .tup (List.replicate n d)
def row (k : Int) (d : D) (b : Bool) : D := .tup [.int k, d, .bl b]
def ask (i j : Int) (y z : D) : D := .tup [.tup [.str "ask", .int i, .int j, y, z]]
def R4 : List D := [row 2 (.tup []) true, row 1 (.tup [dPairs]) true, row 1 (.tup [dTie]) false, row 2 (rep 30 dTie) true, row 2 (rep 31 dTie) false, row 2 (nest 4) true, row 2 (ask 1 0 (nest 4) (.tup [])) false]
def R5 : List D := [row 2 (ask 0 0 (.tup []) (.tup [])) false, row 1 (ask 0 0 (.tup []) (.tup [])) false, row 2 (.tup [.tup [.str "tie", .int 0, .int 2, .str "know"]]) false, row 3 (.tup [.tup [.str "tie", .int 2, .int 0, .str "know"]]) true]
def R6 : List D := [row 2 (ask 0 1 (rep 15 dTie) (rep 14 dTie)) true, row 2 (ask 0 1 (rep 15 dTie) (rep 15 dTie)) false, row 2 (.tup [.tup [.str "tie", .int 0, .int 1, .str "knows"]]) false]
def R7 : List D := [row 2 (.tup [.tup [.str "pairs", .int 2, rep 6 (.int 0)]]) false, row 2 (.tup [.tup [.str "pairs", .int 1, rep 5 (.int 0)]]) false,
  row 2 (.tup [.tup [.str "takes", .int 0, .int 1, .tup [.int 0, .int 1, .int 2, .int 0]]]) false, row 2 (.tup [.tup [.str "takes", .int 0, .int 1, .tup [.int 0, .int 1, .bl true, .int 0]]]) false]
theorem mul_rep (M : MM) (d : D) (n : Nat) (h2 : 2 ≤ n) (h : n ≤ 1000) : oMul M (.tup [d]) (.int n) = some (rep n d) := by
  have : (List.replicate (n : Int).toNat [d]).flatten = List.replicate n d := by
    rw [Int.toNat_natCast]
    clear h2 h
    induction n with
    | zero => rfl
    | succ n ih => rw [List.replicate_succ, List.flatten_cons, ih]; rfl
  show (if 2 ≤ (n : Int) ∧ (n : Int) ≤ 1000 ∧ ([] : List D).length < 1000 then some (D.tup (List.replicate (n : Int).toNat [d]).flatten) else none) = _
  rw [if_pos ⟨by omega, by omega, by decide⟩, this]
  rfl
theorem m5 (M : MM) (d : D) : oMul M (.tup [d]) (.int 5) = some (rep 5 d) := mul_rep M d 5 (by decide) (by decide)
theorem m6 (M : MM) (d : D) : oMul M (.tup [d]) (.int 6) = some (rep 6 d) := mul_rep M d 6 (by decide) (by decide)
theorem m14 (M : MM) (d : D) : oMul M (.tup [d]) (.int 14) = some (rep 14 d) := mul_rep M d 14 (by decide) (by decide)
theorem m15 (M : MM) (d : D) : oMul M (.tup [d]) (.int 15) = some (rep 15 d) := mul_rep M d 15 (by decide) (by decide)
theorem m30 (M : MM) (d : D) : oMul M (.tup [d]) (.int 30) = some (rep 30 d) := mul_rep M d 30 (by decide) (by decide)
theorem m31 (M : MM) (d : D) : oMul M (.tup [d]) (.int 31) = some (rep 31 d) := mul_rep M d 31 (by decide) (by decide)
section
variable (l : List D) (e2 e3 e4 e5 e6 e7 e8 e9 e10 e11 e12 e13 e14 : Option D) (M : MM)
theorem st1 : law1 (leN l e2 e3 e4 e5 e6 e7 e8 e9 e10 e11 e12 e13 e14) M = some (.nx (leN l e2 e3 e4 e5 e6 e7 e8 e9 e10 (some dPairs) (some dTie) e13 e14), M) := rfl
theorem st2 : law2 (leN l e2 e3 e4 e5 e6 e7 e8 e9 e10 e11 e12 e13 e14) M = some (.nx (leN l e2 e3 e4 e5 e6 (some (nest 0)) e8 e9 e10 e11 e12 e13 e14), M) := rfl
theorem st3 : law3 (leN l e2 e3 e4 e5 e6 (some (nest 0)) e8 e9 e10 e11 (some dTie) e13 e14) M = some (.nx (leN l (some (.int 3)) e3 e4 e5 e6 (some (nest 4)) e8 e9 e10 e11 (some dTie) e13 e14), M) := rfl
theorem st4 : law4 (leN l e2 e3 e4 e5 e6 (some (nest 4)) e8 e9 e10 (some dPairs) (some dTie) e13 e14) M = some (.nx (leN l e2 e3 e4 e5 e6 (some (nest 4)) e8 e9 e10 (some dPairs) (some dTie) (some (.lst R4)) e14), M) := by
  unfold law4 leN
  simp only [mAsg, mLst, mTup, mCons, mNil, mVar, mC, mOp, tgName, List.getElem?_cons_zero, List.getElem?_cons_succ, List.set_cons_zero, List.set_cons_succ, m30, m31]
  rfl
theorem st5 : law5 (leN l e2 e3 e4 e5 e6 e7 e8 e9 e10 e11 e12 (some (.lst R4)) e14) M = some (.nx (leN l e2 e3 e4 e5 e6 e7 e8 e9 e10 e11 e12 (some (.lst (R4 ++ R5))) e14), M) := by
  unfold law5 leN
  have h : oAdd M (.lst R4) (.lst R5) = some (.lst (R4 ++ R5)) := oAdd_ll M (by decide)
  simp only [R5, row, ask] at h
  simp only [mAsg, mLst, mTup, mCons, mNil, mVar, mC, mOp, tgName, List.getElem?_cons_zero, List.getElem?_cons_succ, List.set_cons_zero, List.set_cons_succ, h]
  rfl
theorem st6 : law6 (leN l e2 e3 e4 e5 e6 e7 e8 e9 e10 e11 (some dTie) (some (.lst (R4 ++ R5))) e14) M = some (.nx (leN l e2 e3 e4 e5 e6 e7 e8 e9 e10 e11 (some dTie) (some (.lst (R4 ++ R5 ++ R6))) e14), M) := by
  unfold law6 leN
  have h : oAdd M (.lst (R4 ++ R5)) (.lst R6) = some (.lst (R4 ++ R5 ++ R6)) := oAdd_ll M (by decide)
  simp only [R6, row, ask] at h
  simp only [mAsg, mLst, mTup, mCons, mNil, mVar, mC, mOp, tgName, List.getElem?_cons_zero, List.getElem?_cons_succ, List.set_cons_zero, List.set_cons_succ, m14, m15, h]
  rfl
theorem st7 : law7 (leN l e2 e3 e4 e5 e6 e7 e8 e9 e10 e11 e12 (some (.lst (R4 ++ R5 ++ R6))) e14) M = some (.nx (leN l e2 e3 e4 e5 e6 e7 e8 e9 e10 e11 e12 (some (.lst (R4 ++ R5 ++ R6 ++ R7))) e14), M) := by
  unfold law7 leN
  have h : oAdd M (.lst (R4 ++ R5 ++ R6)) (.lst R7) = some (.lst (R4 ++ R5 ++ R6 ++ R7)) := oAdd_ll M (by decide)
  simp only [R7, row, ask] at h
  simp only [mAsg, mLst, mTup, mCons, mNil, mVar, mC, mOp, tgName, List.getElem?_cons_zero, List.getElem?_cons_succ, List.set_cons_zero, List.set_cons_succ, m5, m6, h]
  rfl
end
def rowOk : D → Bool
  | .tup [.int k, d, .bl b] => (decide (1 ≤ k) && decide (k ≤ 3)) && (good 12 d && (scrB (scM k 12 d) == b))
  | _ => false
theorem rows_ok : (R4 ++ R5 ++ R6 ++ R7).all rowOk = true := by decide +kernel
theorem row_is {d : D} (h : rowOk d = true) : ∃ k x b, d = .tup [.int k, x, .bl b] ∧ namedB k ∧ good 12 x = true ∧ scrB (scM k 12 x) = b := by
  unfold rowOk at h
  split at h
  · rename_i k x b
    simp only [Bool.and_eq_true, decide_eq_true_eq, beq_iff_eq] at h
    exact ⟨k, x, b, rfl, h.1, h.2.1, h.2.2⟩
  · cases h
theorem st8 {cl : Fid → FC} (F : LawF cl) (l : List D) (e2 e3 e4 e5 e6 e7 e8 e9 e10 e11 e12 e14 : Option D) (M : MM) :
    law8 cl (leN l e2 e3 e4 e5 e6 e7 e8 e9 e10 e11 e12 (some (.lst (R4 ++ R5 ++ R6 ++ R7))) e14) M = some (.nx (leN l e2 e3 e4 e5 e6 e7 e8 e9 e10 e11 e12 (some (.lst (R4 ++ R5 ++ R6 ++ R7))) e14), M) := by
  have hl : (R4 ++ R5 ++ R6 ++ R7).length ≤ 1000 := by decide
  have hr := rows_ok
  generalize R4 ++ R5 ++ R6 ++ R7 = R at *
  rw [List.all_eq_true] at hr
  have w : wipeD (leN l e2 e3 e4 e5 e6 e7 e8 e9 e10 e11 e12 (some (.lst R)) e14) [3, 9, 14] = leN l e2 none e4 e5 e6 e7 e8 none e10 e11 e12 (some (.lst R)) none := rfl
  have q : lcD (tgTup 3 (tgCons (tgName 3) (tgCons (tgName 9) (tgCons (tgName 14) tgNil)))) (mB (mOp oNe (mCall (cl .p_is_script) (mCons (mVar 3) (mCons (mVar 9) mNil))) (mVar 14))) (mC (.int 1)) (leN l e2 none e4 e5 e6 e7 e8 none e10 e11 e12 (some (.lst R)) none) R M = some ((R.filter fun _ => false).map fun _ => D.int 1, M) := by
    refine lcD_filter _ _ fun d hd => ?_
    obtain ⟨k, x, b, rfl, hk, hg, hb⟩ := row_is (hr d hd)
    refine ⟨leN l e2 (some (.int k)) e4 e5 e6 e7 e8 (some x) e10 e11 e12 (some (.lst R)) (some (.bl b)), rfl, ?_, fun h => by cases h⟩
    have q1 := F.is_script k x M hk hg
    rw [hb] at q1
    unfold leN
    simp only [mB, mOp, mCall, mCons, mNil, mVar, List.getElem?_cons_zero, List.getElem?_cons_succ, q1, oNe_bb]
  have f0 : (R.filter fun _ => false) = [] := by simp
  rw [f0] at q
  have n0 : oNe M (.lst []) (.lst []) = some (.bl false) := by
    have h : oEq M (.lst []) (.lst []) = some (.bl true) := oEq_nil (n := 1) (xs := []) rfl (by decide)
    unfold oNe
    rw [h]
    rfl
  unfold law8
  unfold leN at w q
  simp only [leN, mIfS, mB, mOp, mLc, mVar, mLst, mNil, mSkip, itemsL, List.getElem?_cons_zero, List.getElem?_cons_succ, w, hl, if_true, q, List.map_nil, n0]
theorem oEq_pair (a b : Int) (M : MM) : oEq M (.tup [.int a, .int b]) (.tup [.int a, .int b]) = some (.bl true) := by
  have h : okD (.tup [.int a, .int b]) = true := okD_of (n := 1) (by simp [good]) (by decide)
  show (if (okD (.tup [.int a, .int b]) && okD (.tup [.int a, .int b])) = true then some (D.bl (oEqv (.tup [.int a, .int b]) (.tup [.int a, .int b]))) else none) = _
  rw [h]
  simp [oEqv, py, pys, PyData.eqv, PyData.eqvAll]
theorem st9 {cl : Fid → FC} (F : LawF cl) (l : List D) (e2 e3 e4 e5 e6 e8 e9 e10 e13 e14 : Option D) (M : MM) :
    law9 cl (leN l e2 e3 e4 e5 e6 (some (nest 4)) e8 e9 e10 (some dPairs) (some dTie) e13 e14) M = some (.rt (.bl true), M) := by
  have k2 : namedB 2 := ⟨by decide, by decide⟩
  have k3 : namedB 3 := ⟨by decide, by decide⟩
  have q1 : cl .p_depth_of [.int 2, nest 4] M = some (.int 4, M) := F.depth 2 (nest 4) M 4 4 4 k2 (by decide +kernel) (by decide +kernel) (by decide +kernel)
  have q2 : cl .p_count_deeds [.int 2, nest 4] M = some (.tup [.int 4, .int 4], M) := F.count 2 (nest 4) M 4 4 4 k2 (by decide +kernel) (by decide +kernel) (by decide +kernel)
  have q3 : cl .p_depth_of [.int 2, .tup []] M = some (.int 0, M) := F.depth 2 (.tup []) M 0 0 0 k2 (by decide +kernel) (by decide +kernel) (by decide +kernel)
  have q4 : cl .p_count_deeds [.int 3, .tup [dTie, dPairs, dTie]] M = some (.tup [.int 3, .int 0], M) := F.count 3 (.tup [dTie, dPairs, dTie]) M 3 0 0 k3 (by decide +kernel) (by decide +kernel) (by decide +kernel)
  have s4 : ((4 : Int) == 4) = true := by decide
  have s0 : ((0 : Int) == 0) = true := by decide
  unfold law9 leN
  simp only [mRet, mAnd, mOp, mCall, mCons, mNil, mVar, mC, mTup, List.getElem?_cons_zero, List.getElem?_cons_succ, q1, q2, q3, q4, oEq_ii, oEq_pair, s4, s0]
theorem law_true : ∀ ns : List Int, ns.length ≤ 63 → ∃ M', gLaw 41 [.fz (ns.map D.int)] [] = some (.bl true, M') := by
  intro ns hl
  obtain ⟨a, b, q0, ha, hb, hb2⟩ := g_lcup hl
  have cu : Cup [[.int a, .int b]] := ⟨a, b, rfl, ha, hb, hb2⟩
  have F := law41
  show ∃ M', mFun 15 (B_Law (G 41)) [.fz (ns.map D.int)] [] = some (.bl true, M')
  generalize G 41 = cl at F
  obtain ⟨f2, f3, f4, f5, f6, f7, f8, f9, f10, M1, q1, c1⟩ := l_turns F (ns.map D.int) none none none none (rangeD 0 6) none none none none none none none none none cu
  refine ⟨[], ?_⟩
  have r1 : rng1 [.int 6] = some (0, 6) := rng1_ok 6 (by decide)
  have r2 : ((6 : Int) - 0).toNat = 6 := by decide
  have p1 : ([D.int a, .int b] : List D).all plainD = true := by simp [plainD]
  have s0 : startD 15 [.fz (ns.map D.int)] = [some (.fz (ns.map D.int)), none, none, none, none, none, none, none, none, none, none, none, none, none, none] := rfl
  have e0 : (mCons (mVar 0) mNil) [some (D.fz (ns.map D.int)), none, none, none, none, none, none, none, none, none, none, none, none, none, none] [] = some ([.fz (ns.map D.int)], []) := rfl
  have s1 : [some (D.fz (ns.map D.int)), none, none, none, none, none, none, none, none, none, none, none, none, none, none].set 1 (some (.mu 0)) = leN (ns.map D.int) none none none none none none none none none none none none none := rfl
  have c6 : ∀ r M, (mCons (mC (.int 6)) mNil) r M = some ([.int 6], M) := fun _ _ => rfl
  rw [law_eq]
  unfold mFun
  rw [s0]
  unfold mMu
  rw [e0]
  dsimp only
  rw [q0]
  dsimp only
  rw [p1, s1]
  simp only [mSeq, mForR, c6, r1, r2, q1, st1, st2, st3, st4, st5, st6, st7, st8 F, st9 F, plainD, if_true]
end MT

namespace MT
open PySem PySem.Spec PyProof.Rows L2 ML
theorem sp_end {K : PySem.W.Frag} (H : Hp) (a : Addr) (ns : List Int) (hl : ns.length ≤ 63) (hO : Only H) (hS : SqL K H a (ns.map V.int)) : spM K 1 (gLaw 41) [.ref a] H (fun v _ => v = .bl true) fun _ _ _ => False := by
  obtain ⟨M', e⟩ := law_true ns hl
  have hF : Fz K H a (ns.map V.int) := by
    rcases hS with (h | ⟨o, h⟩) | h
    · rcases hO a with z | ⟨o, xs, z⟩
      · rw [h] at z; cases z
      · rw [h] at z; cases z
    · exact .inl ⟨o, h⟩
    · exact .inr h
  refine ⟨[], [], [], [.fz (ns.map D.int)], .bl true, M', ⟨rfl, by simp, fun n a ds h1 _ => by simp at h1, fun _ h => by cases h⟩, .cons (.fz hF (RVs.of_ints ns)) .nil, rfl, e, fun H' v _ _ rv => ?_⟩
  cases rv
  rfl
end MT
open PySem PySem.W PyProof.Rows
set_option maxHeartbeats 0 in
theorem PySem.Challenge.cw_twobesides_k07_whole_scripts_as_values_holds : PySem.Challenge.rw_twobesides_k07_whole_scripts_as_values.Holds := by
  w_on; o_law; k_head; (case hw => w_witness2)
  k_fill
  refine L2.walk_of (l := PySem.Challenge.rw_twobesides_k07_whole_scripts_as_values) (n := 63) (k := 42) (x := "_law_script_here") (CX := fun _ => L2.CX0) (sp := fun w => ML.spM _ 1 (MT.gLaw 41)) rfl (by decide) rfl ⟨rfl, by decide, by decide⟩ (fun w h Y => PySem.W.kIn_of Y) ?F (fun w H a ns hl hO hS => MT.sp_end H a ns hl hO hS) (fun _ _ _ _ _ h => h)
  case F =>
    intro w mg fa h KX G hmg
    refine' MT.all_mk KX G hmg ?a0 ?l0 ?c0 ?k0 ?a1 ?l1 ?c1 ?k1 ?a2 ?l2 ?c2 ?k2 ?a3 ?l3 ?c3 ?k3 ?a4 ?l4 ?c4 ?k4 ?a5 ?l5 ?c5 ?k5 ?a6 ?l6 ?c6 ?k6 ?a7 ?l7 ?c7 ?k7 ?a8 ?l8 ?c8 ?k8 ?a9 ?l9 ?c9 ?k9 ?a10 ?l10 ?c10 ?k10 ?a11 ?l11 ?c11 ?k11 ?a12 ?l12 ?c12 ?k12 ?a13 ?l13 ?c13 ?k13 ?a14 ?l14 ?c14 ?k14 ?a15 ?l15 ?c15 ?k15 ?a16 ?l16 ?c16 ?k16 ?a17 ?l17 ?c17 ?k17 ?a18 ?l18 ?c18 ?k18 ?a19 ?l19 ?c19 ?k19 ?a20 ?l20 ?c20 ?k20 ?a21 ?l21 ?c21 ?k21 ?a22 ?l22 ?c22 ?k22 ?a23 ?l23 ?c23 ?k23 ?a24 ?l24 ?c24 ?k24 ?a25 ?l25 ?c25 ?k25 ?a26 ?l26 ?c26 ?k26 ?a27 ?l27 ?c27 ?k27 ?a28 ?l28 ?c28 ?k28 ?a29 ?l29 ?c29 ?k29 ?a30 ?l30 ?c30 ?k30 ?a31 ?l31 ?c31 ?k31 ?a32 ?l32 ?c32 ?k32 ?z_abs ?z_all ?z_bool ?z_int ?z_isinstance ?z_len ?z_list ?z_max ?z_range ?z_str ?z_tuple ?m_MOST_DEPTH ?m_MOST_ITEMS ?m_MOST_NAMED ?m_WORDS ?l_WORDS
    (case a0 => k_is); (case l0 => k_is); (case c0 => k_is); (case k0 => k_is); (case a1 => k_is); (case l1 => k_is); (case c1 => k_is); (case k1 => k_is); (case a2 => k_is); (case l2 => k_is); (case c2 => k_is); (case k2 => k_is); (case a3 => k_is); (case l3 => k_is); (case c3 => k_is); (case k3 => k_is); (case a4 => k_is); (case l4 => k_is); (case c4 => k_is); (case k4 => k_is); (case a5 => k_is); (case l5 => k_is); (case c5 => k_is); (case k5 => k_is); (case a6 => k_is); (case l6 => k_is); (case c6 => k_is); (case k6 => k_is); (case a7 => k_is); (case l7 => k_is); (case c7 => k_is); (case k7 => k_is); (case a8 => k_is); (case l8 => k_is); (case c8 => k_is); (case k8 => k_is); (case a9 => k_is); (case l9 => k_is); (case c9 => k_is); (case k9 => k_is); (case a10 => k_is); (case l10 => k_is); (case c10 => k_is); (case k10 => k_is); (case a11 => k_is); (case l11 => k_is); (case c11 => k_is); (case k11 => k_is); (case a12 => k_is); (case l12 => k_is); (case c12 => k_is); (case k12 => k_is); (case a13 => k_is); (case l13 => k_is); (case c13 => k_is); (case k13 => k_is); (case a14 => k_is); (case l14 => k_is); (case c14 => k_is); (case k14 => k_is); (case a15 => k_is); (case l15 => k_is); (case c15 => k_is); (case k15 => k_is); (case a16 => k_is); (case l16 => k_is); (case c16 => k_is); (case k16 => k_is); (case a17 => k_is); (case l17 => k_is); (case c17 => k_is); (case k17 => k_is); (case a18 => k_is); (case l18 => k_is); (case c18 => k_is); (case k18 => k_is); (case a19 => k_is); (case l19 => k_is); (case c19 => k_is); (case k19 => k_is); (case a20 => k_is); (case l20 => k_is); (case c20 => k_is); (case k20 => k_is); (case a21 => k_is); (case l21 => k_is); (case c21 => k_is); (case k21 => k_is); (case a22 => k_is); (case l22 => k_is); (case c22 => k_is); (case k22 => k_is); (case a23 => k_is); (case l23 => k_is); (case c23 => k_is); (case k23 => k_is); (case a24 => k_is); (case l24 => k_is); (case c24 => k_is); (case k24 => k_is); (case a25 => k_is); (case l25 => k_is); (case c25 => k_is); (case k25 => k_is); (case a26 => k_is); (case l26 => k_is); (case c26 => k_is); (case k26 => k_is); (case a27 => k_is); (case l27 => k_is); (case c27 => k_is); (case k27 => k_is); (case a28 => k_is); (case l28 => k_is); (case c28 => k_is); (case k28 => k_is); (case a29 => k_is); (case l29 => k_is); (case c29 => k_is); (case k29 => k_is); (case a30 => k_is); (case l30 => k_is); (case c30 => k_is); (case k30 => k_is); (case a31 => k_is); (case l31 => k_is); (case c31 => k_is); (case k31 => k_is); (case a32 => k_is); (case l32 => k_is); (case c32 => k_is); (case k32 => k_is); (case z_abs => k_is); (case z_all => k_is); (case z_bool => k_is); (case z_int => k_is); (case z_isinstance => k_is); (case z_len => k_is); (case z_list => k_is); (case z_max => k_is); (case z_range => k_is); (case z_str => k_is); (case z_tuple => k_is); (case m_MOST_DEPTH => k_is); (case m_MOST_ITEMS => k_is); (case m_MOST_NAMED => k_is); (case m_WORDS => k_is); (case l_WORDS => k_is)

