import PyProof.Rows.All
import Wide.All
import OpenK.AllK
import Wide.FinOn
import HandS.ForMost
import HandS.Zip
import HandS.IsInst
import HandS.Conv
import HandS.TupAny
import HandS.Style
import HandS.Deep
import HandS.Flow
import HandS.Walk
import KE.DataCmp
import KE.DataMinMax
import KE.DataFind
import KE.DataEq
import HandS.NoneIn
import PySem.Challenge.RW_levelskins_k23_table_of_sixteen
set_option Elab.async false
set_option linter.all false
set_option maxRecDepth 100000
set_option maxHeartbeats 4000000
/-! Data semantics over the hand layer: values as data trees, a frozen part of the heap, owned lists, the deck. -/
namespace Rf
open PySem PySem.Spec PyProof.Rows L2

/-- values: data, the deck, a dict, a set -/
inductive D where
  | py (p : PyData)
  | deck
  | dic (kvs : List (PyData × PyData))
  | set (ds : List PyData)

/-- the deck's two addresses -/
structure Dk where
  a : Addr
  b : Addr
abbrev S := List Int × Int
abbrev Fz := Addr → Prop
abbrev EnvD := List (Option D)

def LAt (K : PySem.W.Frag) (F : Fz) (H : Hp) (a : Addr) (xs : List V) : Prop := F a ∧ H a = some (.lst xs)
def TAt (K : PySem.W.Frag) (F : Fz) (H : Hp) (a : Addr) (xs : List V) : Prop := (F a ∧ H a = some (.tup xs)) ∨ SqT K (fun _ => none) a xs

theorem SqT.empty {K : PySem.W.Frag} {a : Addr} {xs : List V} {H : Hp} (h : SqT K (fun _ => none) a xs) : SqT K H a xs := by
  rcases h with h | h
  · rcases h with h | ⟨o, h⟩ <;> cases h
  · exact .inr h
theorem LAt.sq {K : PySem.W.Frag} {F : Fz} {H : Hp} {a : Addr} {xs : List V} (h : LAt K F H a xs) : SqL K H a xs := .inl (.inl h.2)
theorem TAt.sq {K : PySem.W.Frag} {F : Fz} {H : Hp} {a : Addr} {xs : List V} (h : TAt K F H a xs) : SqT K H a xs := h.elim (fun z => .inl (.inl z.2)) SqT.empty

/-- the frozen part is kept -/
structure Ext (F F' : Fz) (H H' : Hp) : Prop where
  mono : ∀ a, F a → F' a
  keep : ∀ a o, F a → H a = some o → H' a = some o
theorem Ext.refl {F : Fz} {H : Hp} : Ext F F H H := ⟨fun _ h => h, fun _ _ _ h => h⟩
theorem Ext.trans {F F' F'' : Fz} {H H' H'' : Hp} (a : Ext F F' H H') (b : Ext F' F'' H' H'') : Ext F F'' H H'' :=
  ⟨fun x h => b.mono x (a.mono x h), fun x o f h => b.keep x o (a.mono x f) (a.keep x o f h)⟩
theorem LAt.ext {K : PySem.W.Frag} {F F' : Fz} {H H' : Hp} {a : Addr} {xs : List V} (e : Ext F F' H H') (h : LAt K F H a xs) : LAt K F' H' a xs :=
  ⟨e.mono a h.1, e.keep a _ h.1 h.2⟩
theorem TAt.ext {K : PySem.W.Frag} {F F' : Fz} {H H' : Hp} {a : Addr} {xs : List V} (e : Ext F F' H H') (h : TAt K F H a xs) : TAt K F' H' a xs :=
  h.elim (fun z => .inl ⟨e.mono a z.1, e.keep a _ z.1 z.2⟩) .inr

mutual
/-- the value v is the data p, of frozen objects -/
inductive Rp (K : PySem.W.Frag) (F : Fz) (H : Hp) : PyData → V → Prop
  | non : Rp K F H .none .non
  | bl (b : Bool) : Rp K F H (.bool b) (.bl b)
  | int (i : Int) : Rp K F H (.int i) (.int i)
  | str (x : Str) : Rp K F H (.str x) (.str x)
  | lst {a : Addr} {xs : List V} {ds : List PyData} : LAt K F H a xs → Rps K F H ds xs → Rp K F H (.list ds) (.ref a)
  | tup {a : Addr} {xs : List V} {ds : List PyData} : TAt K F H a xs → Rps K F H ds xs → Rp K F H (.tuple ds) (.ref a)
inductive Rps (K : PySem.W.Frag) (F : Fz) (H : Hp) : List PyData → List V → Prop
  | nil : Rps K F H [] []
  | cons {d : PyData} {v : V} {ds : List PyData} {vs : List V} : Rp K F H d v → Rps K F H ds vs → Rps K F H (d :: ds) (v :: vs)
end
section
variable {K : PySem.W.Frag} {F F' : Fz} {H H' : Hp}
mutual
theorem Rp.ext (e : Ext F F' H H') : ∀ {p : PyData} {v : V}, Rp K F H p v → Rp K F' H' p v
  | _, _, .non => .non
  | _, _, .bl b => .bl b
  | _, _, .int i => .int i
  | _, _, .str x => .str x
  | _, _, .lst h r => .lst (h.ext e) (Rps.ext e r)
  | _, _, .tup h r => .tup (h.ext e) (Rps.ext e r)
theorem Rps.ext (e : Ext F F' H H') : ∀ {ps : List PyData} {vs : List V}, Rps K F H ps vs → Rps K F' H' ps vs
  | _, _, .nil => .nil
  | _, _, .cons h r => .cons (Rp.ext e h) (Rps.ext e r)
end
mutual
theorem Rp.dp : ∀ {p : PyData} {v : V}, Rp K F H p v → Dp K H v p
  | _, _, .non => .non
  | _, _, .bl b => .bl b
  | _, _, .int i => .int i
  | _, _, .str x => .str x
  | _, _, .lst h r => .lst h.sq (Rps.dp r)
  | _, _, .tup h r => .tup h.sq (Rps.dp r)
theorem Rps.dp : ∀ {ps : List PyData} {vs : List V}, Rps K F H ps vs → DpAll K H vs ps
  | _, _, .nil => .nil
  | _, _, .cons h r => .cons (Rp.dp h) (Rps.dp r)
end
theorem Rps.length : ∀ {ps : List PyData} {vs : List V}, Rps K F H ps vs → ps.length = vs.length
  | _, _, .nil => rfl
  | _, _, .cons _ r => by rw [List.length_cons, List.length_cons, Rps.length r]
theorem Rps.get : ∀ {ps : List PyData} {vs : List V}, Rps K F H ps vs → ∀ {i : Nat} {p : PyData}, ps[i]? = some p → ∃ v, vs[i]? = some v ∧ Rp K F H p v
  | _, _, .nil, _, _, h => by simp at h
  | _, _, .cons h r, 0, _, e => by simp at e; subst e; exact ⟨_, rfl, h⟩
  | _, _, .cons h r, i + 1, p, e => by
    obtain ⟨v, h1, h2⟩ := Rps.get r (i := i) (p := p) (by simpa using e)
    exact ⟨v, by simpa using h1, h2⟩
theorem Rps.getV : ∀ {ps : List PyData} {vs : List V}, Rps K F H ps vs → ∀ {i : Nat} {v : V}, vs[i]? = some v → ∃ p, ps[i]? = some p ∧ Rp K F H p v
  | _, _, .nil, _, _, h => by simp at h
  | _, _, .cons h r, 0, _, e => by simp at e; subst e; exact ⟨_, rfl, h⟩
  | _, _, .cons h r, i + 1, v, e => by
    obtain ⟨p, h1, h2⟩ := Rps.getV r (i := i) (v := v) (by simpa using e)
    exact ⟨p, by simpa using h1, h2⟩
theorem Rps.append : ∀ {ps qs : List PyData} {vs ws : List V}, Rps K F H ps vs → Rps K F H qs ws → Rps K F H (ps ++ qs) (vs ++ ws)
  | _, _, _, _, .nil, s => s
  | _, _, _, _, .cons h r, s => .cons h (Rps.append r s)
theorem Rps.take : ∀ {ps : List PyData} {vs : List V} (n : Nat), Rps K F H ps vs → Rps K F H (ps.take n) (vs.take n)
  | _, _, 0, _ => .nil
  | _, _, _ + 1, .nil => .nil
  | _, _, n + 1, .cons h r => .cons h (Rps.take n r)
theorem Rps.drop : ∀ {ps : List PyData} {vs : List V} (n : Nat), Rps K F H ps vs → Rps K F H (ps.drop n) (vs.drop n)
  | _, _, 0, r => r
  | _, _, _ + 1, .nil => .nil
  | _, _, n + 1, .cons h r => Rps.drop n r
theorem Rps.reverse : ∀ {ps : List PyData} {vs : List V}, Rps K F H ps vs → Rps K F H ps.reverse vs.reverse
  | _, _, .nil => .nil
  | _, _, .cons h r => by
    rw [List.reverse_cons, List.reverse_cons]
    exact (Rps.reverse r).append (.cons h .nil)
theorem Rps.set : ∀ {ps : List PyData} {vs : List V} {p : PyData} {v : V}, Rps K F H ps vs → Rp K F H p v → ∀ i : Nat, Rps K F H (ps.set i p) (vs.set i v)
  | _, _, _, _, .nil, _, _ => .nil
  | _, _, _, _, .cons _ r, q, 0 => .cons q r
  | _, _, _, _, .cons h r, q, i + 1 => .cons h (Rps.set r q i)
theorem Rps.ints : ∀ {ns : List Int} {vs : List V}, Rps K F H (ns.map .int) vs → vs = ns.map .int
  | [], _, .nil => rfl
  | _ :: _, _, .cons (.int _) r => by rw [List.map_cons, Rps.ints r]
theorem Rps.of_ints : ∀ ns : List Int, Rps K F H (ns.map .int) (ns.map .int)
  | [] => .nil
  | n :: ns => .cons (.int n) (Rps.of_ints ns)
end

/-- a value of any kind; dicts and sets come later -/
def Rep (K : PySem.W.Frag) (k : Dk) (F : Fz) (H : Hp) : D → V → Prop
  | .py p, v => Rp K F H p v
  | .deck, v => v = .ref k.a
  | .dic _, _ => False
  | .set _, _ => False
theorem Rep.ext {K : PySem.W.Frag} {k : Dk} {F F' : Fz} {H H' : Hp} (e : Ext F F' H H') : ∀ {d : D} {v : V}, Rep K k F H d v → Rep K k F' H' d v
  | .py _, _, h => Rp.ext e h
  | .deck, _, h => h
  | .dic _, _, h => h
  | .set _, _, h => h
def Reps (K : PySem.W.Frag) (k : Dk) (F : Fz) (H : Hp) : List D → List V → Prop := Paired fun d v => Rep K k F H d v
theorem Reps.ext {K : PySem.W.Frag} {k : Dk} {F F' : Fz} {H H' : Hp} (e : Ext F F' H H') {ds : List D} {vs : List V} (h : Reps K k F H ds vs) : Reps K k F' H' ds vs :=
  Paired.mapP h fun _ _ z => z.ext e

/-- from one state of the heap to a later one: all but the deck is kept -/
structure Stp (k : Dk) (F F' : Fz) (H H' : Hp) : Prop where
  mono : ∀ a, F a → F' a
  keep : ∀ a o, a ≠ k.a → a ≠ k.b → H a = some o → H' a = some o
  new : ∀ a, F' a → F a ∨ H a = none
theorem Stp.refl {k : Dk} {F : Fz} {H : Hp} : Stp k F F H H := ⟨fun _ h => h, fun _ _ _ _ h => h, fun _ h => .inl h⟩
theorem Stp.trans {k : Dk} {F F' F'' : Fz} {H H' H'' : Hp} (a : Stp k F F' H H') (b : Stp k F' F'' H' H'') (hk : H k.a ≠ none) (hk' : H k.b ≠ none) (na : ¬F'' k.a) (nb : ¬F'' k.b) : Stp k F F'' H H'' :=
  ⟨fun x h => b.mono x (a.mono x h), fun x o h1 h2 h => b.keep x o h1 h2 (a.keep x o h1 h2 h), fun x h => by
    rcases b.new x h with z | z
    · exact a.new x z
    · refine .inr ?_
      cases q : H x with
      | none => rfl
      | some o =>
        have h1 : x ≠ k.a := fun e => na (e ▸ h)
        have h2 : x ≠ k.b := fun e => nb (e ▸ h)
        rw [a.keep x o h1 h2 q] at z
        cases z⟩

/-- the deck stands, the frozen part is laid -/
structure Ok (k : Dk) (F : Fz) (H : Hp) (s : S) : Prop where
  fok : ∀ a, F a → H a ≠ none
  ab : k.a ≠ k.b
  na : ¬F k.a
  nb : ¬F k.b
  da : H k.a = some (.lst [.ref k.b, .int s.2])
  db : H k.b = some (.lst (s.1.map .int))
  sz : s.1.length ≤ 63
theorem Stp.ext {k : Dk} {F F' : Fz} {H H' : Hp} {s : S} (st : Stp k F F' H H') (ok : Ok k F H s) : Ext F F' H H' :=
  ⟨st.mono, fun a o f h => st.keep a o (fun e => ok.na (e ▸ f)) (fun e => ok.nb (e ▸ f)) h⟩
theorem Stp.then {k : Dk} {F F' F'' : Fz} {H H' H'' : Hp} {s s'' : S} (a : Stp k F F' H H') (b : Stp k F' F'' H' H'') (o : Ok k F H s) (o'' : Ok k F'' H'' s'') : Stp k F F'' H H'' :=
  a.trans b (by rw [o.da]; exact fun z => nomatch z) (by rw [o.db]; exact fun z => nomatch z) o''.na o''.nb

/-- an owned object: a list that is not frozen yet -/
def Own (K : PySem.W.Frag) (F : Fz) (H : Hp) : D → Addr → Prop
  | .py (.list ds), p => ∃ xs, H p = some (.lst xs) ∧ Rps K F H ds xs
  | _, _ => False

structure Good (K : PySem.W.Frag) (k : Dk) (F0 : Fz) (H0 : Hp) (F : Fz) (H : Hp) (σ : L2.St) (O : List Nat) (env : EnvD) (s : S) : Prop where
  ok : Ok k F H s
  st : Stp k F0 F H0 H
  ka : H0 k.a ≠ none
  kb : H0 k.b ≠ none
  len : env.length = σ.length
  val : ∀ i d, env[i]? = some (some d) → i ∉ O → ∃ v, σ[i]? = some (some v) ∧ Rep K k F H d v
  own : ∀ i d, env[i]? = some (some d) → i ∈ O → ∃ p, σ[i]? = some (some (.ref p)) ∧ ¬F p ∧ H0 p = none ∧ Own K F H d p
  apart : ∀ i j d d' p, i ∈ O → j ∈ O → env[i]? = some (some d) → env[j]? = some (some d') → σ[i]? = some (some (.ref p)) → σ[j]? = some (some (.ref p)) → i = j

section
variable {K : PySem.W.Frag} {k : Dk} {F0 F F' : Fz} {H0 H H' : Hp} {σ : L2.St} {O : List Nat} {env : EnvD} {s s' : S}
theorem Own.not_deck {d : D} {p : Addr} (g : Ok k F H s) (st : Stp k F0 F H0 H) (ka : H0 k.a ≠ none) (kb : H0 k.b ≠ none) (h : H0 p = none) : p ≠ k.a ∧ p ≠ k.b :=
  ⟨fun e => ka (e ▸ h), fun e => kb (e ▸ h)⟩
theorem Own.step {d : D} {p : Addr} (st : Stp k F F' H H') (e : Ext F F' H H') (n1 : p ≠ k.a) (n2 : p ≠ k.b) (h : Own K F H d p) : Own K F' H' d p := by
  cases d with
  | py q =>
    cases q with
    | list ds =>
      obtain ⟨xs, h1, h2⟩ := h
      exact ⟨xs, st.keep p _ n1 n2 h1, h2.ext e⟩
    | _ => exact h.elim
  | _ => exact h.elim
theorem Own.some_at {d : D} {p : Addr} (h : Own K F H d p) : H p ≠ none := by
  cases d with
  | py q =>
    cases q with
    | list ds =>
      obtain ⟨xs, h1, h2⟩ := h
      rw [h1]
      exact fun z => nomatch z
    | _ => exact h.elim
  | _ => exact h.elim
theorem Good.step (g : Good K k F0 H0 F H σ O env s) (st : Stp k F F' H H') (ok : Ok k F' H' s') : Good K k F0 H0 F' H' σ O env s' := by
  have e := st.ext g.ok
  refine ⟨ok, g.st.trans st g.ka g.kb ok.na ok.nb, g.ka, g.kb, g.len, fun i d h1 h2 => ?_, fun i d h1 h2 => ?_, g.apart⟩
  · obtain ⟨v, e1, r⟩ := g.val i d h1 h2
    exact ⟨v, e1, r.ext e⟩
  · obtain ⟨p, e1, nf, n0, o⟩ := g.own i d h1 h2
    have nd := Own.not_deck (d := d) g.ok g.st g.ka g.kb n0
    refine ⟨p, e1, fun z => ?_, n0, o.step st e nd.1 nd.2⟩
    rcases st.new p z with z | z
    · exact nf z
    · exact o.some_at z
end

/-! ### expressions -/
abbrev FE := EnvD → S → Option (D × S)
abbrev FT := EnvD → S → Option (Bool × S)
abbrev FA := EnvD → S → Option (List D × S)

def EV (X : Cx) (k : Dk) (O : List Nat) (e : Expr) (f : FE) : Prop :=
  ∃ t, PE X e t ∧ ∀ F0 H0 F H σ env s d s' (Q : VK), Good X.K k F0 H0 F H σ O env s → f env s = some (d, s') →
    (∀ v F' H', Stp k F F' H H' → Ok k F' H' s' → Rep X.K k F' H' d v → Q v H') → t σ H Q
def TV (X : Cx) (k : Dk) (O : List Nat) (e : Expr) (f : FT) : Prop :=
  ∃ t, PT X e t ∧ ∀ F0 H0 F H σ env s d s' (Q : Bool → Hp → Prop), Good X.K k F0 H0 F H σ O env s → f env s = some (d, s') →
    (∀ F' H', Stp k F F' H H' → Ok k F' H' s' → Q d H') → t σ H Q
def AV (X : Cx) (k : Dk) (O : List Nat) (es : List Expr) (f : FA) : Prop :=
  ∃ t, PA X es t ∧ ∀ F0 H0 F H σ env s ds s' (Q : List V → Hp → Prop), Good X.K k F0 H0 F H σ O env s → f env s = some (ds, s') →
    (∀ vs F' H', Stp k F F' H H' → Ok k F' H' s' → Reps X.K k F' H' ds vs → Q vs H') → t σ H Q

section
variable {X : Cx} {k : Dk} {O : List Nat}

def fVar (i : Nat) : FE := fun env s => match env[i]? with | some (some d) => some (d, s) | _ => none
def fLit (p : PyData) : FE := fun _ s => some (.py p, s)
theorem ev_var {i : Nat} {x : Str} {pos : Pos} (hN : X.N[i]? = some x) (hv : Vis X.env.scope x) (ho : i ∉ O) (hd : (x == ("__debug__" : Str)) = false) (hcd : (x == ("__classdict__" : Str)) = false) :
    EV X k O (.Name x pos) (fVar i) := by
  refine ⟨_, pe_var hN hv hd hcd, fun F0 H0 F H σ env s d s' Q g h q => ?_⟩
  unfold fVar at h
  split at h
  · rename_i d' e
    cases h
    obtain ⟨v, e1, r⟩ := g.val i _ e ho
    exact ⟨v, e1, q v F H .refl g.ok r⟩
  · cases h
theorem ev_int {i : Int} {j pos} : EV X k O (.Constant (.int i) j pos) (fLit (.int i)) :=
  ⟨_, pe_int, fun F0 H0 F H σ env s d s' Q g h q => by cases h; exact q _ F H .refl g.ok (.int i)⟩
theorem ev_bool {b : Bool} {j pos} : EV X k O (.Constant (.bool b) j pos) (fLit (.bool b)) :=
  ⟨_, pe_bl, fun F0 H0 F H σ env s d s' Q g h q => by cases h; exact q _ F H .refl g.ok (.bl b)⟩
theorem ev_none {j pos} : EV X k O (.Constant .none j pos) (fLit .none) :=
  ⟨_, pe_non, fun F0 H0 F H σ env s d s' Q g h q => by cases h; exact q _ F H .refl g.ok .non⟩
theorem ev_str {x : Str} {j pos} : EV X k O (.Constant (.str x) j pos) (fLit (.str x)) :=
  ⟨_, pe_str, fun F0 H0 F H σ env s d s' Q g h q => by cases h; exact q _ F H .refl g.ok (.str x)⟩
/-- a module's constant: data in the written part -/
theorem ev_glob {x : Str} {p : PyData} {v : V} {u : Value} {pos : Pos} (hg : Gl X x) (hm : X.mg x = some u) (r : RelV v u) (hp : Rp X.K (fun _ => False) (fun _ => none) p v) (hd : (x == ("__debug__" : Str)) = false) : EV X k O (.Name x pos) (fLit p) :=
  ⟨_, pe_glob hg hm r hd, fun F0 H0 F H σ env s d s' Q g h q => by
    cases h
    exact q _ F H .refl g.ok (hp.ext ⟨fun _ z => z.elim, fun _ _ z => z.elim⟩)⟩

/-- a value of a step by values -/
def OpD (X : Cx) (k : Dk) (r : R2) (g : D → D → Option D) : Prop :=
  ∀ F H s x y a b d (Q : VK), Ok k F H s → Rep X.K k F H a x → Rep X.K k F H b y → g a b = some d → (∀ v F' H', Stp k F F' H H' → Ok k F' H' s → Rep X.K k F' H' d v → Q v H') → r x y H Q
def f2 (g : D → D → Option D) (fa fb : FE) : FE := fun env s => (fa env s).bind fun p => (fb env p.2).bind fun q => (g p.1 q.1).map fun d => (d, q.2)
theorem f2_some {g : D → D → Option D} {fa fb : FE} {env : EnvD} {s s' : S} {d : D} (h : f2 g fa fb env s = some (d, s')) : ∃ a s1 b, fa env s = some (a, s1) ∧ fb env s1 = some (b, s') ∧ g a b = some d := by
  unfold f2 at h
  cases e1 : fa env s with
  | none => rw [e1] at h; cases h
  | some p =>
    obtain ⟨a, s1⟩ := p
    rw [e1] at h
    simp only [Option.bind_some] at h
    cases e2 : fb env s1 with
    | none => rw [e2] at h; cases h
    | some q =>
      obtain ⟨b, s2⟩ := q
      rw [e2] at h
      simp only [Option.bind_some] at h
      cases e3 : g a b with
      | none => rw [e3] at h; cases h
      | some c =>
        rw [e3] at h
        simp only [Option.map_some, Option.some.injEq, Prod.mk.injEq] at h
        obtain ⟨rfl, rfl⟩ := h
        exact ⟨a, s1, b, rfl, e2, e3⟩
/-- two values one after the other, then a step -/
theorem two_ok {ta tb : TE} {fa fb : FE} {r : R2} {g : D → D → Option D}
    (qa : ∀ F0 H0 F H σ env s d s' (Q : VK), Good X.K k F0 H0 F H σ O env s → fa env s = some (d, s') → (∀ v F' H', Stp k F F' H H' → Ok k F' H' s' → Rep X.K k F' H' d v → Q v H') → ta σ H Q)
    (qb : ∀ F0 H0 F H σ env s d s' (Q : VK), Good X.K k F0 H0 F H σ O env s → fb env s = some (d, s') → (∀ v F' H', Stp k F F' H H' → Ok k F' H' s' → Rep X.K k F' H' d v → Q v H') → tb σ H Q)
    (ho : OpD X k r g) : ∀ F0 H0 F H σ env s d s' (Q : VK), Good X.K k F0 H0 F H σ O env s → f2 g fa fb env s = some (d, s') →
    (∀ v F' H', Stp k F F' H H' → Ok k F' H' s' → Rep X.K k F' H' d v → Q v H') → tOp r ta tb σ H Q := by
  intro F0 H0 F H σ env s d s' Q G h q
  obtain ⟨a, s1, b, e1, e2, e3⟩ := f2_some h
  refine qa F0 H0 F H σ env s a s1 _ G e1 fun v F1 H1 st1 ok1 r1 => ?_
  have G1 := G.step st1 ok1
  refine qb F0 H0 F1 H1 σ env s1 b s' _ G1 e2 fun u F2 H2 st2 ok2 r2 => ?_
  refine ho F2 H2 s' v u a b d Q ok2 (r1.ext (st2.ext ok1)) r2 e3 fun w F3 H3 st3 ok3 r3 => ?_
  exact q w F3 H3 ((st1.then st2 G.ok ok2).then st3 G.ok ok3) ok3 r3
variable {a b : Expr} {fa fb : FE}
theorem ev_bin {op : Operator} {pos : Pos} {r : R2} {g : D → D → Option D} (hr : OpR X (binaryOp op) r) (ho : OpD X k r g) (ha : EV X k O a fa) (hb : EV X k O b fb) : EV X k O (.BinOp a op b pos) (f2 g fa fb) := by
  obtain ⟨ta, pa, qa⟩ := ha
  obtain ⟨tb, pb, qb⟩ := hb
  exact ⟨_, pe_op hr pa pb, two_ok qa qb ho⟩
theorem ev_cmp {op : CmpOp} {pos : Pos} {r : R2} {g : D → D → Option D} (hr : OpR X (compareOp op) r) (ho : OpD X k r g) (ha : EV X k O a fa) (hb : EV X k O b fb) (hm : behindInMarks op b = false) : EV X k O (.Compare a [op] [b] pos) (f2 g fa fb) := by
  obtain ⟨ta, pa, qa⟩ := ha
  obtain ⟨tb, pb, qb⟩ := hb
  exact ⟨_, pe_cmpR hr pa pb hm, two_ok qa qb ho⟩
theorem ev_ix {pos : Pos} {r : R2} {g : D → D → Option D} (hr : IxR X r) (ho : OpD X k r g) (ha : EV X k O a fa) (hb : EV X k O b fb) (hs : PlainIx b) : EV X k O (.Subscript a b pos) (f2 g fa fb) := by
  obtain ⟨ta, pa, qa⟩ := ha
  obtain ⟨tb, pb, qb⟩ := hb
  exact ⟨_, pe_ix hr pa pb hs, two_ok qa qb ho⟩
end
end Rf

namespace Rf
open PySem PySem.Spec PyProof.Rows L2
section
variable {X : Cx} {k : Dk} {O : List Nat} {F F' : Fz} {H H' : Hp} {s s' : S}

def addF (F : Fz) (p : Addr) : Fz := fun a => F a ∨ a = p
theorem alloc {p : Addr} {o : HO} (ok : Ok k F H s) (hp : H p = none) : Stp k F (addF F p) H (upd H p o) ∧ Ok k (addF F p) (upd H p o) s := by
  have na : k.a ≠ p := fun e => by rw [← e, ok.da] at hp; cases hp
  have nb : k.b ≠ p := fun e => by rw [← e, ok.db] at hp; cases hp
  refine ⟨⟨fun _ h => .inl h, fun a o' _ _ h => ?_, fun a h => ?_⟩, ⟨fun a h => ?_, ok.ab, fun h => ?_, fun h => ?_, ?_, ?_, ok.sz⟩⟩
  · rw [upd_ne (ne_of_none h hp)]; exact h
  · rcases h with h | h
    · exact .inl h
    · rw [h]; exact .inr hp
  · rcases h with h | h
    · by_cases e : a = p
      · rw [e, upd_same]; exact fun z => nomatch z
      · rw [upd_ne e]; exact ok.fok a h
    · rw [h, upd_same]; exact fun z => nomatch z
  · rcases h with h | h
    · exact ok.na h
    · exact na h
  · rcases h with h | h
    · exact ok.nb h
    · exact nb h
  · rw [upd_ne na]; exact ok.da
  · rw [upd_ne nb]; exact ok.db
/-- a new tuple, a new list, frozen at once -/
theorem new_tup {p : Addr} {ds : List PyData} {xs : List V} {Q : VK} (ok : Ok k F H s) (hp : H p = none) (r : Rps X.K F H ds xs)
    (q : ∀ v F' H', Stp k F F' H H' → Ok k F' H' s → Rep X.K k F' H' (.py (.tuple ds)) v → Q v H') : Q (.ref p) (upd H p (.tup xs)) := by
  obtain ⟨st, ok'⟩ := alloc (o := .tup xs) ok hp
  exact q _ _ _ st ok' (.tup (.inl ⟨.inr rfl, upd_same⟩) (r.ext (st.ext ok)))
theorem new_lst {p : Addr} {ds : List PyData} {xs : List V} {Q : VK} (ok : Ok k F H s) (hp : H p = none) (r : Rps X.K F H ds xs)
    (q : ∀ v F' H', Stp k F F' H H' → Ok k F' H' s → Rep X.K k F' H' (.py (.list ds)) v → Q v H') : Q (.ref p) (upd H p (.lst xs)) := by
  obtain ⟨st, ok'⟩ := alloc (o := .lst xs) ok hp
  exact q _ _ _ st ok' (.lst ⟨.inr rfl, upd_same⟩ (r.ext (st.ext ok)))

/-! ### + - * // % ** -/
def big : Nat := 16777216
theorem big_eq : sizeLine = big := sizeLine_eq
def addD : D → D → Option D
  | .py (.int i), .py (.int j) => some (.py (.int (i + j)))
  | .py (.list xs), .py (.list ys) => if xs.length + ys.length ≤ big then some (.py (.list (xs ++ ys))) else none
  | .py (.tuple xs), .py (.tuple ys) => if xs.length + ys.length ≤ big then some (.py (.tuple (xs ++ ys))) else none
  | _, _ => none
def rAddD (K : PySem.W.Frag) : R2 := fun x y H Q => rI0 (fun i j => .int (i + j)) x y H Q ∨ (rCat x y H Q ∨ rCatA K x y H Q)
theorem or_addD : OpR X (binaryOp .Add) (rAddD X.K) := op_add.or (op_cat.or op_catA)
theorem od_addD : OpD X k (rAddD X.K) addD := by
  intro F H s x y a b d Q ok ra rb h q
  unfold addD at h
  split at h
  · cases h
    cases ra; cases rb
    exact .inl ⟨_, _, rfl, rfl, q _ F H .refl ok (.int _)⟩
  · split at h
    · rename_i hl
      cases h
      cases ra with
      | lst ha r1 =>
        cases rb with
        | lst hb r2 =>
          refine .inr (.inl ⟨_, _, _, _, rfl, rfl, ha.2, hb.2, by rw [← r1.length, ← r2.length, big_eq]; exact hl, fun p hp => ?_⟩)
          exact new_lst ok hp (r1.append r2) q
    · cases h
  · split at h
    · rename_i hl
      cases h
      cases ra with
      | tup ha r1 =>
        cases rb with
        | tup hb r2 =>
          refine .inr (.inr ⟨_, _, _, _, rfl, rfl, ha.sq, hb.sq, by rw [← r1.length, ← r2.length, big_eq]; exact hl, fun e => ?_, fun e1 e => ?_, fun e1 e2 p hp => ?_⟩)
          · subst e
            cases r1
            exact q _ F H .refl ok (.tup hb r2)
          · subst e
            cases r2
            rw [List.append_nil] at q
            exact q _ F H .refl ok (.tup ha r1)
          · exact new_tup ok hp (r1.append r2) q
    · cases h
  · cases h

def intD (g : Int → Int → Option D) : D → D → Option D
  | .py (.int i), .py (.int j) => g i j
  | _, _ => none
theorem intD_some {g : Int → Int → Option D} {a b d : D} (h : intD g a b = some d) : ∃ i j, a = .py (.int i) ∧ b = .py (.int j) ∧ g i j = some d := by
  unfold intD at h
  split at h
  · exact ⟨_, _, rfl, rfl, h⟩
  · cases h
theorem od_int0 {gv : Int → Int → V} {g : Int → Int → PyData} (hg : ∀ K F H i j, Rp K F H (g i j) (gv i j)) : OpD X k (rI0 gv) (intD fun i j => some (.py (g i j))) := by
  intro F H s x y a b d Q ok ra rb h q
  obtain ⟨i, j, rfl, rfl, e⟩ := intD_some h
  cases e; cases ra; cases rb
  exact ⟨i, j, rfl, rfl, q _ F H .refl ok (hg _ _ _ i j)⟩
theorem od_intC {C : Int → Int → Prop} {c : Int → Int → Bool} {gv : Int → Int → V} {g : Int → Int → PyData} (hC : ∀ i j, c i j = true → C i j) (hg : ∀ K F H i j, Rp K F H (g i j) (gv i j)) :
    OpD X k (rI C gv) (intD fun i j => if c i j = true then some (.py (g i j)) else none) := by
  intro F H s x y a b d Q ok ra rb h q
  obtain ⟨i, j, rfl, rfl, e⟩ := intD_some h
  split at e
  · rename_i hc
    cases e; cases ra; cases rb
    exact ⟨i, j, rfl, rfl, hC i j hc, q _ F H .refl ok (hg _ _ _ i j)⟩
  · cases e
def subD : D → D → Option D := intD fun i j => some (.py (.int (i - j)))
theorem od_subD : OpD X k (rI0 fun i j => .int (i - j)) subD := od_int0 fun _ _ _ _ _ => .int _
def mulC (i j : Int) : Bool := (decide (-(2 ^ 64) < i) && decide (i < 2 ^ 64)) || (decide (-(2 ^ 64) < j) && decide (j < 2 ^ 64))
def mulD : D → D → Option D := intD fun i j => if mulC i j = true then some (.py (.int (i * j))) else none
theorem od_mulD : OpD X k (rI CMul fun i j => .int (i * j)) mulD := od_intC (fun i j h => by
  unfold mulC at h
  simp only [Bool.or_eq_true, Bool.and_eq_true, decide_eq_true_eq] at h
  exact h) fun _ _ _ _ _ => .int _
def divC (i j : Int) : Bool := decide (0 < j) && decide (j < 1073741824)
def fdivD : D → D → Option D := intD fun i j => if divC i j = true then some (.py (.int (i / j))) else none
theorem od_fdivD : OpD X k (rI CDiv fun i j => .int (i / j)) fdivD := od_intC (fun i j h => by
  unfold divC at h
  simp only [Bool.and_eq_true, decide_eq_true_eq] at h
  exact h) fun _ _ _ _ _ => .int _
def modD : D → D → Option D := intD fun i j => if decide (0 < j) = true then some (.py (.int (i % j))) else none
theorem od_modD : OpD X k (rI (fun _ j => 0 < j) fun i j => .int (i % j)) modD := od_intC (c := fun _ j => decide (0 < j)) (fun i j h => of_decide_eq_true h) fun _ _ _ _ _ => .int _
def powC (i j : Int) : Bool := decide (0 ≤ j) && (decide (j ≤ 1000000) && decide (i.natAbs < 2 ^ 64))
def powD : D → D → Option D := intD fun i j => if powC i j = true then some (.py (.int (i ^ j.toNat))) else none
theorem od_powD : OpD X k (rI CPow fun i j => .int (i ^ j.toNat)) powD := od_intC (fun i j h => by
  unfold powC at h
  simp only [Bool.and_eq_true, decide_eq_true_eq] at h
  exact h) fun _ _ _ _ _ => .int _

/-! ### == != < <= > >= in, not in, is None -/
def shal (p : PyData) : Bool := decide (p.depth ≤ 60)
def rEqP (K : PySem.W.Frag) (ng : Bool) : R2 := fun x y H Q => ∃ d e, Dp K H x d ∧ Dp K H y e ∧ d.plain = true ∧ e.plain = true ∧ d.depth ≤ 60 ∧ Q (.bl (if ng then !PyData.eqv d e else PyData.eqv d e)) H
theorem or_eqP (hu : X.A.units + 64 < cLine) : OpR X (compareOp .Eq) (rEqP X.K false) := by
  intro pins s σ H x y v u Q I rx ry h
  obtain ⟨d, e, hd, he, pd, pe, hl, q⟩ := h
  obtain ⟨as, r1⟩ := Dp.reads I d x v hd rx
  obtain ⟨bs, r2⟩ := Dp.reads I e y u he ry
  exact SeqAt.eq_plain r1 r2 pd pe (by omega) ⟨.bl _, H, I, rfl, q⟩
theorem or_neP (hu : X.A.units + 64 < cLine) : OpR X (compareOp .NotEq) (rEqP X.K true) := by
  intro pins s σ H x y v u Q I rx ry h
  obtain ⟨d, e, hd, he, pd, pe, hl, q⟩ := h
  obtain ⟨as, r1⟩ := Dp.reads I d x v hd rx
  obtain ⟨bs, r2⟩ := Dp.reads I e y u he ry
  exact SeqAt.ne_plain r1 r2 pd pe (by omega) ⟨.bl _, H, I, rfl, q⟩
def pyD (g : PyData → PyData → Option PyData) : D → D → Option D
  | .py p, .py q => (g p q).map .py
  | _, _ => none
theorem pyD_some {g : PyData → PyData → Option PyData} {a b d : D} (h : pyD g a b = some d) : ∃ p q r, a = .py p ∧ b = .py q ∧ g p q = some r ∧ d = .py r := by
  unfold pyD at h
  split at h
  · rename_i p q
    cases e : g p q with
    | none => rw [e] at h; cases h
    | some r => rw [e] at h; cases h; exact ⟨_, _, r, rfl, rfl, e, rfl⟩
  · cases h
def eqG (ng : Bool) : PyData → PyData → Option PyData
  | .int i, .int j => some (.bool (if ng then !(i == j) else (i == j)))
  | p, q => if p.plain && (q.plain && shal p) then some (.bool (if ng then !PyData.eqv p q else PyData.eqv p q)) else none
theorem eqG_some {ng : Bool} {p q r : PyData} (h : eqG ng p q = some r) : p.plain = true ∧ q.plain = true ∧ p.depth ≤ 60 ∧ r = .bool (if ng then !PyData.eqv p q else PyData.eqv p q) := by
  unfold eqG at h
  split at h
  · cases h
    refine ⟨by simp only [PyData.plain], by simp only [PyData.plain], by simp only [PyData.depth]; omega, ?_⟩
    simp only [PyData.eqv]
  · split at h
    · rename_i hc
      cases h
      simp only [Bool.and_eq_true, shal, decide_eq_true_eq] at hc
      exact ⟨hc.1, hc.2.1, hc.2.2, rfl⟩
    · cases h
theorem od_eqG {ng : Bool} : OpD X k (rEqP X.K ng) (pyD (eqG ng)) := by
  intro F H s x y a b d Q ok ra rb h q
  obtain ⟨p, p2, r, rfl, rfl, e, rfl⟩ := pyD_some h
  obtain ⟨h1, h2, h3, rfl⟩ := eqG_some e
  exact ⟨p, p2, Rp.dp ra, Rp.dp rb, h1, h2, h3, q _ F H .refl ok (.bl _)⟩

inductive Cm where | lt | le | gt | ge
  deriving DecidableEq
def Cm.op : Cm → CmpOp
  | .lt => .Lt | .le => .LtE | .gt => .Gt | .ge => .GtE
def Cm.ints : Cm → Int → Int → Bool
  | .lt, i, j => decide (i < j) | .le, i, j => decide (i ≤ j) | .gt, i, j => decide (j < i) | .ge, i, j => decide (j ≤ i)
def Cm.data : Cm → PyData → PyData → Bool
  | .lt, p, q => PySem.W.dataLt p q | .le, p, q => !PySem.W.dataLt q p | .gt, p, q => PySem.W.dataLt q p | .ge, p, q => !PySem.W.dataLt p q
def notNone : PyData → Bool
  | .none => false
  | _ => true
theorem notNone_ne {p : PyData} (h : notNone p = true) : p ≠ .none := fun e => by rw [e] at h; cases h
def rCm (K : PySem.W.Frag) (c : Cm) : R2 := fun x y H Q => rI0 (fun i j => .bl (c.ints i j)) x y H Q ∨ ∃ d e, Dp K H x d ∧ Dp K H y e ∧ PySem.W.alike d e = true ∧ d ≠ .none ∧ d.depth ≤ 60 ∧ Q (.bl (c.data d e)) H
theorem or_cm (hu : X.A.units + 64 < cLine) (c : Cm) : OpR X (compareOp c.op) (rCm X.K c) := by
  refine OpR.or (by cases c <;> first | exact op_lt | exact op_le | exact op_gt | exact op_ge) ?_
  intro pins s σ H x y v u Q I rx ry h
  obtain ⟨d, e, hd, he, al, nn, hl, q⟩ := h
  obtain ⟨as, r1⟩ := Dp.reads I d x v hd rx
  obtain ⟨bs, r2⟩ := Dp.reads I e y u he ry
  cases c with
  | lt => exact PySem.W.lt_data r1 r2 al nn (by omega) ⟨.bl _, H, I, rfl, q⟩
  | le => exact PySem.W.le_data r1 r2 al nn (by omega) ⟨.bl _, H, I, rfl, q⟩
  | gt => exact PySem.W.gt_data r1 r2 al nn (by omega) ⟨.bl _, H, I, rfl, q⟩
  | ge => exact PySem.W.ge_data r1 r2 al nn (by omega) ⟨.bl _, H, I, rfl, q⟩
def cmG (c : Cm) : PyData → PyData → Option PyData
  | .int i, .int j => some (.bool (c.ints i j))
  | p, q => if PySem.W.alike p q && (notNone p && shal p) then some (.bool (c.data p q)) else none
theorem od_cm {c : Cm} : OpD X k (rCm X.K c) (pyD (cmG c)) := by
  intro F H s x y a b d Q ok ra rb h q
  obtain ⟨p, p2, r, rfl, rfl, e, rfl⟩ := pyD_some h
  unfold cmG at e
  split at e
  · cases e; cases ra; cases rb
    exact .inl ⟨_, _, rfl, rfl, q _ F H .refl ok (.bl _)⟩
  · split at e
    · rename_i hc
      cases e
      simp only [Bool.and_eq_true, shal, decide_eq_true_eq] at hc
      exact .inr ⟨_, _, Rp.dp ra, Rp.dp rb, hc.1, notNone_ne hc.2.1, hc.2.2, q _ F H .refl ok (.bl _)⟩
    · cases e

def rInP (K : PySem.W.Frag) (ng : Bool) : R2 := fun x y H Q => ∃ d ds, Dp K H x d ∧ (Dp K H y (.list ds) ∨ Dp K H y (.tuple ds)) ∧ d.plain = true ∧ PyData.plainAll ds = true ∧ d.depth ≤ 60 ∧ Q (.bl (if ng then !ds.any (fun z => PyData.eqv z d) else ds.any fun z => PyData.eqv z d)) H
theorem or_inP (hu : X.A.units + 64 < cLine) : OpR X (compareOp .In) (rInP X.K false) := by
  intro pins s σ H x y v u Q I rx ry h
  obtain ⟨d, ds, hd, he, pd, pe, hl, q⟩ := h
  obtain ⟨as, r1⟩ := Dp.reads I d x v hd rx
  rcases he with he | he
  · obtain ⟨bs, r2⟩ := Dp.reads I _ y u he ry
    exact SeqAt.in_list_data r2 r1 pe pd (by omega) ⟨.bl _, H, I, rfl, q⟩
  · obtain ⟨bs, r2⟩ := Dp.reads I _ y u he ry
    exact SeqAt.in_tuple_data r2 r1 pe pd (by omega) ⟨.bl _, H, I, rfl, q⟩
theorem or_notInP (hu : X.A.units + 64 < cLine) : OpR X (compareOp .NotIn) (rInP X.K true) := by
  intro pins s σ H x y v u Q I rx ry h
  obtain ⟨d, ds, hd, he, pd, pe, hl, q⟩ := h
  obtain ⟨as, r1⟩ := Dp.reads I d x v hd rx
  rcases he with he | he
  · obtain ⟨bs, r2⟩ := Dp.reads I _ y u he ry
    exact SeqAt.notIn_list_data r2 r1 pe pd (by omega) ⟨.bl _, H, I, rfl, q⟩
  · obtain ⟨bs, r2⟩ := Dp.reads I _ y u he ry
    exact SeqAt.notIn_tuple_data r2 r1 pe pd (by omega) ⟨.bl _, H, I, rfl, q⟩
def items : PyData → Option (List PyData)
  | .list ds => some ds
  | .tuple ds => some ds
  | _ => none
def inG (ng : Bool) (p q : PyData) : Option PyData :=
  match items q with
  | some ds => if p.plain && (PyData.plainAll ds && shal p) then some (.bool (if ng then !ds.any (fun z => PyData.eqv z p) else ds.any fun z => PyData.eqv z p)) else none
  | none => none
theorem items_dp {K : PySem.W.Frag} {q : PyData} {ds : List PyData} {v : V} (h : items q = some ds) (r : Rp K F H q v) : Dp K H v (.list ds) ∨ Dp K H v (.tuple ds) := by
  cases q <;> simp only [items, reduceCtorEq, Option.some.injEq] at h
  · subst h; exact .inl (Rp.dp r)
  · subst h; exact .inr (Rp.dp r)
theorem od_inG {ng : Bool} : OpD X k (rInP X.K ng) (pyD (inG ng)) := by
  intro F H s x y a b d Q ok ra rb h q
  obtain ⟨p, p2, r, rfl, rfl, e, rfl⟩ := pyD_some h
  unfold inG at e
  split at e
  · rename_i ds hi
    split at e
    · rename_i hc
      cases e
      simp only [Bool.and_eq_true, shal, decide_eq_true_eq] at hc
      exact ⟨p, ds, Rp.dp ra, items_dp hi rb, hc.1, hc.2.1, hc.2.2, q _ F H .refl ok (.bl _)⟩
    · cases e
  · cases e
def isNoneP : PyData → Bool
  | .none => true
  | _ => false
def isND (ng : Bool) : D → D → Option D
  | .py p, .py .none => some (.py (.bool (if ng then !isNoneP p else isNoneP p)))
  | _, _ => none
theorem isNone_v {K : PySem.W.Frag} {p : PyData} {v : V} (r : Rp K F H p v) : decide (v = .non) = isNoneP p := by
  cases r <;> simp [isNoneP]
def rIsP (ng : Bool) : R2 := fun x y H Q => y = .non ∧ Q (.bl (if ng then !decide (x = .non) else decide (x = .non))) H
theorem or_isN : OpR X (compareOp .Is) (rIsP false) := op_isN
theorem or_notN : OpR X (compareOp .IsNot) (rIsP true) := op_notN
theorem od_isND {ng : Bool} : OpD X k (rIsP ng) (isND ng) := by
  intro F H s x y a b d Q ok ra rb h q
  unfold isND at h
  split at h
  · cases h
    cases rb
    refine ⟨rfl, ?_⟩
    rw [isNone_v ra]
    exact q _ F H .refl ok (.bl _)
  · cases h

/-! ### subscripts -/
def ixG : PyData → PyData → Option PyData
  | .list ds, .int i => atI ds i
  | .tuple ds, .int i => atI ds i
  | _, _ => none
theorem atI_rps {K : PySem.W.Frag} {ds : List PyData} {xs : List V} {i : Int} {p : PyData} (r : Rps K F H ds xs) (h : atI ds i = some p) : ∃ v, atI xs i = some v ∧ Rp K F H p v := by
  unfold atI at h ⊢
  rw [← r.length]
  cases e : ixN ds.length i with
  | none => rw [e] at h; cases h
  | some j =>
    rw [e] at h
    simp only [Option.bind_some] at h ⊢
    exact r.get h
def rIxD (K : PySem.W.Frag) : R2 := fun x y H Q => rIxL K x y H Q ∨ rIxT K x y H Q
theorem or_ix : IxR X (rIxD X.K) := ix_list.or ix_tup
theorem od_ixG : OpD X k (rIxD X.K) (pyD ixG) := by
  intro F H s x y a b d Q ok ra rb h q
  obtain ⟨p, p2, r, rfl, rfl, e, rfl⟩ := pyD_some h
  unfold ixG at e
  split at e
  · cases ra with
    | lst ha r1 =>
      cases rb
      obtain ⟨v, h1, h2⟩ := atI_rps r1 e
      exact .inl ⟨_, _, _, v, rfl, rfl, ha.sq, h1, q v F H .refl ok h2⟩
  · cases ra with
    | tup ha r1 =>
      cases rb
      obtain ⟨v, h1, h2⟩ := atI_rps r1 e
      exact .inr ⟨_, _, _, v, rfl, rfl, ha.sq, h1, q v F H .refl ok h2⟩
  · cases e
end
end Rf

namespace Rf
open PySem PySem.Spec PyProof.Rows L2
section
variable {X : Cx} {k : Dk} {O : List Nat} {a b c e : Expr} {fa fb fc f : FE} {es : List Expr} {fs : FA} {pos : Pos}

/-! ### arguments -/
def aNil : FA := fun _ s => some ([], s)
def aCons (f : FE) (g : FA) : FA := fun env s => (f env s).bind fun p => (g env p.2).map fun q => (p.1 :: q.1, q.2)
theorem aCons_some {g : FA} {env : EnvD} {s s' : S} {ds : List D} (h : aCons f g env s = some (ds, s')) : ∃ d s1 r, f env s = some (d, s1) ∧ g env s1 = some (r, s') ∧ ds = d :: r := by
  unfold aCons at h
  cases e1 : f env s with
  | none => rw [e1] at h; cases h
  | some p =>
    obtain ⟨d, s1⟩ := p
    rw [e1] at h
    simp only [Option.bind_some] at h
    cases e2 : g env s1 with
    | none => rw [e2] at h; cases h
    | some q =>
      obtain ⟨r, s2⟩ := q
      rw [e2] at h
      simp only [Option.map_some, Option.some.injEq, Prod.mk.injEq] at h
      obtain ⟨rfl, rfl⟩ := h
      exact ⟨d, s1, r, rfl, e2, rfl⟩
theorem av_nil : AV X k O [] aNil := ⟨_, pa_nil, fun F0 H0 F H σ env s ds s' Q g h q => by cases h; exact q [] F H .refl g.ok .nil⟩
theorem av_cons (he : EV X k O e f) (hs : AV X k O es fs) (hst : starEach (e :: es) X.env = (false, eval e X.env) :: starEach es X.env) : AV X k O (e :: es) (aCons f fs) := by
  obtain ⟨te, pe, qe⟩ := he
  obtain ⟨ts, ps, qs⟩ := hs
  refine ⟨_, pa_cons pe ps hst, fun F0 H0 F H σ env s ds s' Q G h q => ?_⟩
  obtain ⟨d, s1, r, e1, e2, rfl⟩ := aCons_some h
  refine qe F0 H0 F H σ env s d s1 _ G e1 fun v F1 H1 st1 ok1 r1 => ?_
  refine qs F0 H0 F1 H1 σ env s1 r s' _ (G.step st1 ok1) e2 fun vs F2 H2 st2 ok2 r2 => ?_
  exact q (v :: vs) F2 H2 (st1.then st2 G.ok ok2) ok2 (.cons (r1.ext (st2.ext ok1)) r2)

/-! ### displays -/
def pys : List D → Option (List PyData)
  | [] => some []
  | .py p :: r => (pys r).map fun q => p :: q
  | _ :: _ => none
theorem pys_reps {K : PySem.W.Frag} {F : Fz} {H : Hp} : ∀ {ds : List D} {ps : List PyData} {vs : List V}, pys ds = some ps → Reps K k F H ds vs → Rps K F H ps vs
  | [], _, _, h, .nil => by cases h; exact .nil
  | .py p :: r, ps, _, h, .cons h1 h2 => by
    unfold pys at h
    cases e : pys r with
    | none => rw [e] at h; cases h
    | some q =>
      rw [e] at h
      cases h
      exact .cons h1 (pys_reps e h2)
  | .deck :: _, _, _, h, .cons _ _ => by cases h
  | .dic _ :: _, _, _, h, .cons _ _ => by cases h
  | .set _ :: _, _, _, h, .cons _ _ => by cases h
theorem pys_len : ∀ {ds : List D} {ps : List PyData}, pys ds = some ps → ps.length = ds.length
  | [], _, h => by cases h; rfl
  | .py p :: r, ps, h => by
    unfold pys at h
    cases e : pys r with
    | none => rw [e] at h; cases h
    | some q =>
      rw [e] at h
      cases h
      rw [List.length_cons, List.length_cons, pys_len e]
  | .deck :: _, _, h => by cases h
  | .dic _ :: _, _, h => by cases h
  | .set _ :: _, _, h => by cases h
/-- a step on the arguments' values -/
def fArgs (g : List D → Option D) (fs : FA) : FE := fun env s => (fs env s).bind fun p => (g p.1).map fun d => (d, p.2)
theorem fArgs_some {g : List D → Option D} {env : EnvD} {s s' : S} {d : D} (h : fArgs g fs env s = some (d, s')) : ∃ ds, fs env s = some (ds, s') ∧ g ds = some d := by
  unfold fArgs at h
  cases e1 : fs env s with
  | none => rw [e1] at h; cases h
  | some p =>
    obtain ⟨ds, s1⟩ := p
    rw [e1] at h
    simp only [Option.bind_some] at h
    cases e2 : g ds with
    | none => rw [e2] at h; cases h
    | some q =>
      rw [e2] at h
      simp only [Option.map_some, Option.some.injEq, Prod.mk.injEq] at h
      obtain ⟨rfl, rfl⟩ := h
      exact ⟨ds, rfl, e2⟩
def tupG (n : Nat) (ds : List D) : Option D := if ds.length ≤ big then (pys ds).map fun ps => .py (.tuple ps) else none
def lstG (n : Nat) (ds : List D) : Option D := if ds.length ≤ big then (pys ds).map fun ps => .py (.list ps) else none
theorem ev_tup {x1 : Nat} (hs : AV X k O es fs) : EV X k O (.Tuple es x1 pos) (fArgs (tupG 0) fs) := by
  obtain ⟨ts, ps, qs⟩ := hs
  refine ⟨_, pe_tup ps, fun F0 H0 F H σ env s d s' Q G h q => ?_⟩
  obtain ⟨ds, e1, e2⟩ := fArgs_some h
  refine qs F0 H0 F H σ env s ds s' _ G e1 fun vs F1 H1 st1 ok1 r1 => ?_
  unfold tupG at e2
  split at e2
  · rename_i hl
    cases e3 : pys ds with
    | none => rw [e3] at e2; cases e2
    | some p =>
      rw [e3] at e2
      cases e2
      have r2 := pys_reps e3 r1
      refine ⟨by rw [← r2.length, pys_len e3, big_eq]; exact hl, fun a ha => ?_⟩
      exact new_tup (X := X) ok1 ha r2 fun v F' H' st ok r => q v F' H' (st1.then st G.ok ok) ok r
  · cases e2
theorem ev_lst (hs : AV X k O es fs) : EV X k O (.List es pos) (fArgs (lstG 0) fs) := by
  obtain ⟨ts, ps, qs⟩ := hs
  refine ⟨_, pe_lst ps, fun F0 H0 F H σ env s d s' Q G h q => ?_⟩
  obtain ⟨ds, e1, e2⟩ := fArgs_some h
  refine qs F0 H0 F H σ env s ds s' _ G e1 fun vs F1 H1 st1 ok1 r1 => ?_
  unfold lstG at e2
  split at e2
  · rename_i hl
    cases e3 : pys ds with
    | none => rw [e3] at e2; cases e2
    | some p =>
      rw [e3] at e2
      cases e2
      have r2 := pys_reps e3 r1
      refine ⟨by rw [← r2.length, pys_len e3, big_eq]; exact hl, fun a ha => ?_⟩
      exact new_lst (X := X) ok1 ha r2 fun v F' H' st ok r => q v F' H' (st1.then st G.ok ok) ok r
  · cases e2

/-! ### calls -/
def CallD (X : Cx) (k : Dk) (r : List V → Hp → VK → Prop) (g : List D → Option D) : Prop :=
  ∀ F H s xs ds d (Q : VK), Ok k F H s → Reps X.K k F H ds xs → g ds = some d → (∀ v F' H', Stp k F F' H H' → Ok k F' H' s → Rep X.K k F' H' d v → Q v H') → r xs H Q
theorem args_ok {r : List V → Hp → VK → Prop} {g : List D → Option D} {t : TA}
    (qs : ∀ F0 H0 F H σ env s ds s' (Q : List V → Hp → Prop), Good X.K k F0 H0 F H σ O env s → fs env s = some (ds, s') → (∀ vs F' H', Stp k F F' H H' → Ok k F' H' s' → Reps X.K k F' H' ds vs → Q vs H') → t σ H Q)
    (hg : CallD X k r g) : ∀ F0 H0 F H σ env s d s' (Q : VK), Good X.K k F0 H0 F H σ O env s → fArgs g fs env s = some (d, s') →
    (∀ v F' H', Stp k F F' H H' → Ok k F' H' s' → Rep X.K k F' H' d v → Q v H') → tCB r t σ H Q := by
  intro F0 H0 F H σ env s d s' Q G h q
  obtain ⟨ds, e1, e2⟩ := fArgs_some h
  refine qs F0 H0 F H σ env s ds s' _ G e1 fun vs F1 H1 st1 ok1 r1 => ?_
  exact hg F1 H1 s' vs ds d Q ok1 r1 e2 fun v F2 H2 st2 ok2 r2 => q v F2 H2 (st1.then st2 G.ok ok2) ok2 r2
theorem ev_callB {id : String} {x : Str} {p : Pos} {r : List V → Hp → VK → Prop} {g : List D → Option D} (hc : CallR X (.builtin id) r) (hg : CallD X k r g) (hx : Gl X x) (hm : X.mg x = none) (hv : bootBuiltins x = some (.builtin id)) (hs : AV X k O (e :: es) fs)
    (hn : x ≠ "__name__") (hdb : (x == ("__debug__" : Str)) = false) (he : starEach (e :: es) X.env = (false, eval e X.env) :: starEach es X.env) (hpl : (backTo pos (starEach es X.env)).any (·.1) = false) : EV X k O (.Call (.Name x p) (e :: es) [] pos) (fArgs g fs) := by
  obtain ⟨ts, ps, qs⟩ := hs
  exact ⟨_, pe_callB hc hx hm hv ps hn hdb he hpl, args_ok qs hg⟩
theorem ev_callTy {T : String} {x : Str} {p : Pos} {r : List V → Hp → VK → Prop} {g : List D → Option D} (hc : CallR X (.type T) r) (hg : CallD X k r g) (hx : Gl X x) (hm : X.mg x = none) (hv : bootBuiltins x = some (.type T)) (hs : AV X k O (e :: es) fs)
    (hn : x ≠ "__name__") (hdb : (x == ("__debug__" : Str)) = false) (he : starEach (e :: es) X.env = (false, eval e X.env) :: starEach es X.env) (hpl : (backTo pos (starEach es X.env)).any (·.1) = false) : EV X k O (.Call (.Name x p) (e :: es) [] pos) (fArgs g fs) := by
  obtain ⟨ts, ps, qs⟩ := hs
  exact ⟨_, pe_callTy hc hx hm hv ps hn hdb he hpl, args_ok qs hg⟩

abbrev FN := List D → S → Option (D × S)
/-- the promise of a def that computes g -/
def spOf (K : PySem.W.Frag) (k : Dk) (n : Nat) (g : FN) : Sp := fun vs H Q _ => vs.length = n ∧ ∃ F ds s d s', Ok k F H s ∧ Reps K k F H ds vs ∧ g ds s = some (d, s') ∧
  ∀ v F' H', Stp k F F' H H' → Ok k F' H' s' → Rep K k F' H' d v → Q v H'
def fFn (n : Nat) (g : FN) (fs : FA) : FE := fun env s => (fs env s).bind fun p => if p.1.length = n then g p.1 p.2 else none
theorem fFn_some {n : Nat} {g : FN} {env : EnvD} {s s' : S} {d : D} (h : fFn n g fs env s = some (d, s')) : ∃ ds s1, fs env s = some (ds, s1) ∧ ds.length = n ∧ g ds s1 = some (d, s') := by
  unfold fFn at h
  cases e1 : fs env s with
  | none => rw [e1] at h; cases h
  | some p =>
    obtain ⟨ds, s1⟩ := p
    rw [e1] at h
    simp only [Option.bind_some] at h
    split at h
    · rename_i hl
      exact ⟨ds, s1, rfl, hl, h⟩
    · cases h
theorem fn_ok {n : Nat} {g : FN} {t : TA} {E : XK}
    (qs : ∀ F0 H0 F H σ env s ds s' (Q : List V → Hp → Prop), Good X.K k F0 H0 F H σ O env s → fs env s = some (ds, s') → (∀ vs F' H', Stp k F F' H H' → Ok k F' H' s' → Reps X.K k F' H' ds vs → Q vs H') → t σ H Q) :
    ∀ F0 H0 F H σ env s d s' (Q : VK), Good X.K k F0 H0 F H σ O env s → fFn n g fs env s = some (d, s') →
    (∀ v F' H', Stp k F F' H H' → Ok k F' H' s' → Rep X.K k F' H' d v → Q v H') → tCall (spOf X.K k n g) [] E t σ H Q := by
  intro F0 H0 F H σ env s d s' Q G h q
  obtain ⟨ds, s1, e1, hl, e2⟩ := fFn_some h
  refine qs F0 H0 F H σ env s ds s1 _ G e1 fun vs F1 H1 st1 ok1 r1 => ?_
  rw [List.append_nil]
  exact ⟨by rw [← hl]; exact (Paired.length r1).symm, F1, ds, s1, d, s', ok1, r1, e2, fun v F2 H2 st2 ok2 r2 => q v F2 H2 (st1.then st2 G.ok ok2) ok2 r2⟩
theorem ev_fn {lv : Nat} {fa : Addr} {fd : FuncData} {ps : List Str} {n : Nat} {g : FN} {x : Str} {p : Pos} (Fn : FnOk X.prog X.w X.K X.mg X.base CX0 lv fa fd ps (spOf X.K k n g)) (hr : Room lv X.A) (hx : Gl X x) (hm : X.mg x = some (.ref fa)) (hk : PySem.W.keepIn X.K (.ref fa) = true) (hb : Binds X.K fd ps [])
    (hs : AV X k O (e :: es) fs) (hdb : (x == ("__debug__" : Str)) = false) (he : starEach (e :: es) X.env = (false, eval e X.env) :: starEach es X.env) (hpl : (backTo pos (starEach es X.env)).any (·.1) = false) :
    EV X k O (.Call (.Name x p) (e :: es) [] pos) (fFn n g fs) := by
  obtain ⟨ts, pa, qs⟩ := hs
  exact ⟨_, pe_call (E := fun _ _ _ => False) Fn hr hx hm hk hb .nil pass0 pa hdb he hpl, fn_ok qs⟩
theorem ev_fn0 {lv : Nat} {fa : Addr} {fd : FuncData} {ps : List Str} {n : Nat} {g : FN} {x : Str} {p : Pos} (Fn : FnOk X.prog X.w X.K X.mg X.base CX0 lv fa fd ps (spOf X.K k n g)) (hr : Room lv X.A) (hx : Gl X x) (hm : X.mg x = some (.ref fa)) (hk : PySem.W.keepIn X.K (.ref fa) = true) (hb : Binds X.K fd ps [])
    (hdb : (x == ("__debug__" : Str)) = false) : EV X k O (.Call (.Name x p) [] [] pos) (fFn n g aNil) := by
  obtain ⟨ts, pa, qs⟩ := (av_nil : AV X k O [] aNil)
  refine ⟨_, pe_call0 (E := fun _ _ _ => False) Fn hr hx hm hk hb .nil pass0 hdb, fn_ok (t := tNil) fun F0 H0 F H σ env s ds s' Q G h q => ?_⟩
  cases h
  exact q [] F H .refl G.ok .nil

/-! ### truth, and, or, not -/
def truP : PyData → Option Bool
  | .none => some false
  | .bool b => some b
  | .int i => some (i != 0)
  | .list ds => some (!ds.isEmpty)
  | .tuple ds => some (!ds.isEmpty)
  | _ => none
def truD : D → Option Bool
  | .py p => truP p
  | _ => none
theorem Rps.isEmpty {K : PySem.W.Frag} {F : Fz} {H : Hp} {ds : List PyData} {vs : List V} (r : Rps K F H ds vs) : vs.isEmpty = ds.isEmpty := by cases r <;> rfl
theorem tru_ok {K : PySem.W.Frag} {F : Fz} {H : Hp} {d : D} {v : V} {bb : Bool} (h : truD d = some bb) (r : Rep K k F H d v) : TruV K v H bb := by
  cases d with
  | py p =>
    cases r with
    | non => cases h; rfl
    | bl b => cases h; rfl
    | int i => cases h; rfl
    | str x => cases h
    | lst ha r1 => cases h; exact .inl ⟨_, ha.sq, by rw [Rps.isEmpty r1]⟩
    | tup ha r1 => cases h; exact .inr (.inl ⟨_, ha.sq, by rw [Rps.isEmpty r1]⟩)
  | _ => cases h
def fTru (f : FE) : FT := fun env s => (f env s).bind fun p => (truD p.1).map fun b => (b, p.2)
theorem fTru_some {env : EnvD} {s s' : S} {bb : Bool} (h : fTru f env s = some (bb, s')) : ∃ d, f env s = some (d, s') ∧ truD d = some bb := by
  unfold fTru at h
  cases e1 : f env s with
  | none => rw [e1] at h; cases h
  | some p =>
    obtain ⟨d, s1⟩ := p
    rw [e1] at h
    simp only [Option.bind_some] at h
    cases e2 : truD d with
    | none => rw [e2] at h; cases h
    | some b =>
      rw [e2] at h
      simp only [Option.map_some, Option.some.injEq, Prod.mk.injEq] at h
      obtain ⟨rfl, rfl⟩ := h
      exact ⟨d, rfl, e2⟩
theorem tv_val (he : EV X k O e f) (hp : ∀ whole, isTrue e X.env whole = (do let v ← whole; standAt e.pos; holding [v] (truthy v))) : TV X k O e (fTru f) := by
  obtain ⟨te, pe, qe⟩ := he
  refine ⟨_, pt_truth pe hp, fun F0 H0 F H σ env s d s' Q G h q => ?_⟩
  obtain ⟨x, e1, e2⟩ := fTru_some h
  exact qe F0 H0 F H σ env s x s' _ G e1 fun v F1 H1 st1 ok1 r1 => ⟨d, tru_ok e2 r1, q F1 H1 st1 ok1⟩
def asB : D → Option Bool
  | .py (.bool b) => some b
  | _ => none
theorem asB_rep {K : PySem.W.Frag} {F : Fz} {H : Hp} {d : D} {v : V} {bb : Bool} (h : asB d = some bb) (r : Rep K k F H d v) : v = .bl bb := by
  unfold asB at h
  split at h
  · cases h; cases r; rfl
  · cases h
def fAsB (f : FE) : FT := fun env s => (f env s).bind fun p => (asB p.1).map fun b => (b, p.2)
theorem fAsB_some {env : EnvD} {s s' : S} {bb : Bool} (h : fAsB f env s = some (bb, s')) : ∃ d, f env s = some (d, s') ∧ asB d = some bb := by
  unfold fAsB at h
  cases e1 : f env s with
  | none => rw [e1] at h; cases h
  | some p =>
    obtain ⟨d, s1⟩ := p
    rw [e1] at h
    simp only [Option.bind_some] at h
    cases e2 : asB d with
    | none => rw [e2] at h; cases h
    | some b =>
      rw [e2] at h
      simp only [Option.map_some, Option.some.injEq, Prod.mk.injEq] at h
      obtain ⟨rfl, rfl⟩ := h
      exact ⟨d, rfl, e2⟩
theorem tv_cmp {op : CmpOp} {r : R2} {g : D → D → Option D} (hr : OpR X (compareOp op) r) (ho : OpD X k r g) (ha : EV X k O a fa) (hb : EV X k O b fb) (hm : behindInMarks op b = false) : TV X k O (.Compare a [op] [b] pos) (fAsB (f2 g fa fb)) := by
  obtain ⟨ta, pa, qa⟩ := ha
  obtain ⟨tb, pb, qb⟩ := hb
  refine ⟨_, pt_cmpR hr pa pb hm, fun F0 H0 F H σ env s d s' Q G h q => ?_⟩
  obtain ⟨x, e1, e2⟩ := fAsB_some h
  exact two_ok qa qb ho F0 H0 F H σ env s x s' _ G e1 fun v F1 H1 st1 ok1 r1 => ⟨d, asB_rep e2 r1, q F1 H1 st1 ok1⟩
/-- a chain of two comparisons -/
def fChain (g g' : D → D → Option D) (fa fb fc : FE) : FE := fun env s => (fa env s).bind fun p => (fb env p.2).bind fun q => ((g p.1 q.1).bind asB).bind fun bb =>
  if bb = true then (fc env q.2).bind fun r => (g' q.1 r.1).map fun d => (d, r.2) else some (.py (.bool false), q.2)
theorem chain_ok {ta tb tc : TE} {r r' : R2} {g g' : D → D → Option D}
    (qa : ∀ F0 H0 F H σ env s d s' (Q : VK), Good X.K k F0 H0 F H σ O env s → fa env s = some (d, s') → (∀ v F' H', Stp k F F' H H' → Ok k F' H' s' → Rep X.K k F' H' d v → Q v H') → ta σ H Q)
    (qb : ∀ F0 H0 F H σ env s d s' (Q : VK), Good X.K k F0 H0 F H σ O env s → fb env s = some (d, s') → (∀ v F' H', Stp k F F' H H' → Ok k F' H' s' → Rep X.K k F' H' d v → Q v H') → tb σ H Q)
    (qc : ∀ F0 H0 F H σ env s d s' (Q : VK), Good X.K k F0 H0 F H σ O env s → fc env s = some (d, s') → (∀ v F' H', Stp k F F' H H' → Ok k F' H' s' → Rep X.K k F' H' d v → Q v H') → tc σ H Q)
    (ho : OpD X k r g) (ho' : OpD X k r' g') : ∀ F0 H0 F H σ env s d s' (Q : VK), Good X.K k F0 H0 F H σ O env s → fChain g g' fa fb fc env s = some (d, s') →
    (∀ v F' H', Stp k F F' H H' → Ok k F' H' s' → Rep X.K k F' H' d v → Q v H') → tChain r r' ta tb tc σ H Q := by
  intro F0 H0 F H σ env s d s' Q G h q
  unfold fChain at h
  cases e1 : fa env s with
  | none => rw [e1] at h; cases h
  | some p =>
  obtain ⟨x, s1⟩ := p
  rw [e1] at h
  simp only [Option.bind_some] at h
  cases e2 : fb env s1 with
  | none => rw [e2] at h; cases h
  | some p =>
  obtain ⟨y, s2⟩ := p
  rw [e2] at h
  simp only [Option.bind_some] at h
  cases e3 : g x y with
  | none => rw [e3] at h; cases h
  | some z =>
  rw [e3] at h
  simp only [Option.bind_some] at h
  cases e4 : asB z with
  | none => rw [e4] at h; cases h
  | some bb =>
  rw [e4] at h
  simp only [Option.bind_some] at h
  refine qa F0 H0 F H σ env s x s1 _ G e1 fun v F1 H1 st1 ok1 r1 => ?_
  refine qb F0 H0 F1 H1 σ env s1 y s2 _ (G.step st1 ok1) e2 fun u F2 H2 st2 ok2 r2 => ?_
  refine ho F2 H2 s2 v u x y z _ ok2 (r1.ext (st2.ext ok1)) r2 e3 fun w F3 H3 st3 ok3 r3 => ?_
  refine ⟨bb, asB_rep e4 r3, ?_⟩
  have st13 := (st1.then st2 G.ok ok2).then st3 G.ok ok3
  cases bb with
  | false =>
    rw [if_neg (by decide)] at h ⊢
    cases h
    exact q _ F3 H3 st13 ok3 (.bl false)
  | true =>
    rw [if_pos rfl] at h ⊢
    cases e5 : fc env s2 with
    | none => rw [e5] at h; cases h
    | some p =>
    obtain ⟨z2, s3⟩ := p
    rw [e5] at h
    simp only [Option.bind_some] at h
    cases e6 : g' y z2 with
    | none => rw [e6] at h; cases h
    | some w2 =>
    rw [e6] at h
    simp only [Option.map_some, Option.some.injEq, Prod.mk.injEq] at h
    obtain ⟨rfl, rfl⟩ := h
    refine qc F0 H0 F3 H3 σ env s2 z2 s3 _ (G.step st13 ok3) e5 fun u4 F4 H4 st4 ok4 r4 => ?_
    refine ho' F4 H4 s3 u u4 y z2 w2 Q ok4 ((r2.ext (st3.ext ok2)).ext (st4.ext ok3)) r4 e6 fun v5 F5 H5 st5 ok5 r5 => ?_
    exact q v5 F5 H5 ((st13.then st4 G.ok ok4).then st5 G.ok ok5) ok5 r5
theorem ev_chain {op op' : CmpOp} {r r' : R2} {g g' : D → D → Option D} (hr : OpR X (compareOp op) r) (hr' : OpR X (compareOp op') r') (ho : OpD X k r g) (ho' : OpD X k r' g') (ha : EV X k O a fa) (hb : EV X k O b fb) (hc : EV X k O c fc) (hm : lastMarks [op, op'] [b, c] = false) :
    EV X k O (.Compare a [op, op'] [b, c] pos) (fChain g g' fa fb fc) := by
  obtain ⟨ta, pa, qa⟩ := ha
  obtain ⟨tb, pb, qb⟩ := hb
  obtain ⟨tc, pc, qc⟩ := hc
  exact ⟨_, pe_chain hr hr' pa pb pc hm, chain_ok qa qb qc ho ho'⟩
theorem tv_chain {op op' : CmpOp} {r r' : R2} {g g' : D → D → Option D} (hr : OpR X (compareOp op) r) (hr' : OpR X (compareOp op') r') (ho : OpD X k r g) (ho' : OpD X k r' g') (ha : EV X k O a fa) (hb : EV X k O b fb) (hc : EV X k O c fc) (hm : lastMarks [op, op'] [b, c] = false) :
    TV X k O (.Compare a [op, op'] [b, c] pos) (fAsB (fChain g g' fa fb fc)) := by
  obtain ⟨ta, pa, qa⟩ := ha
  obtain ⟨tb, pb, qb⟩ := hb
  obtain ⟨tc, pc, qc⟩ := hc
  refine ⟨_, pt_chain hr hr' pa pb pc hm, fun F0 H0 F H σ env s d s' Q G h q => ?_⟩
  obtain ⟨x, e1, e2⟩ := fAsB_some h
  exact chain_ok qa qb qc ho ho' F0 H0 F H σ env s x s' _ G e1 fun v F1 H1 st1 ok1 r1 => ⟨d, asB_rep e2 r1, q F1 H1 st1 ok1⟩

variable {ga gb gc : FT}
def fNotT (g : FT) : FT := fun env s => (g env s).map fun p => (!p.1, p.2)
theorem tv_not (ha : TV X k O a ga) : TV X k O (.UnaryOp .Not a pos) (fNotT ga) := by
  obtain ⟨ta, pa, qa⟩ := ha
  refine ⟨_, pt_not pa, fun F0 H0 F H σ env s d s' Q G h q => ?_⟩
  unfold fNotT at h
  cases e1 : ga env s with
  | none => rw [e1] at h; cases h
  | some p =>
    obtain ⟨b, s1⟩ := p
    rw [e1] at h
    simp only [Option.map_some, Option.some.injEq, Prod.mk.injEq] at h
    obtain ⟨rfl, rfl⟩ := h
    exact qa F0 H0 F H σ env s b s1 _ G e1 fun F1 H1 st1 ok1 => q F1 H1 st1 ok1
/-- a chain of and, of or, as a test -/
def WV (X : Cx) (k : Dk) (O : List Nat) (e : Expr) (f : FT) : Prop :=
  ∃ t, PW X e t ∧ ∀ F0 H0 F H σ env s d s' (Q : Bool → Hp → Prop), Good X.K k F0 H0 F H σ O env s → f env s = some (d, s') → (∀ F' H', Stp k F F' H H' → Ok k F' H' s' → Q d H') → t σ H Q
theorem WV.tv (h : WV X k O e ga) : TV X k O e ga := let ⟨t, p, q⟩ := h; ⟨t, p.pt, q⟩
theorem wv_and1 (ha : TV X k O a ga) : WV X k O (.BoolOp .And [a] pos) ga := let ⟨t, p, q⟩ := ha; ⟨t, pw_and1 p, q⟩
theorem wv_or1 (ha : TV X k O a ga) : WV X k O (.BoolOp .Or [a] pos) ga := let ⟨t, p, q⟩ := ha; ⟨t, pw_or1 p, q⟩
def fAndT (g h : FT) : FT := fun env s => (g env s).bind fun p => if p.1 = true then h env p.2 else some (false, p.2)
def fOrT (g h : FT) : FT := fun env s => (g env s).bind fun p => if p.1 = true then some (true, p.2) else h env p.2
theorem wv_and (ha : TV X k O a ga) (hb : WV X k O (.BoolOp .And (b :: es) pos) gb) : WV X k O (.BoolOp .And (a :: b :: es) pos) (fAndT ga gb) := by
  obtain ⟨ta, pa, qa⟩ := ha
  obtain ⟨tb, pb, qb⟩ := hb
  refine ⟨_, pw_and pa pb, fun F0 H0 F H σ env s d s' Q G h q => ?_⟩
  unfold fAndT at h
  cases e1 : ga env s with
  | none => rw [e1] at h; cases h
  | some p =>
    obtain ⟨x, s1⟩ := p
    rw [e1] at h
    simp only [Option.bind_some] at h
    refine qa F0 H0 F H σ env s x s1 _ G e1 fun F1 H1 st1 ok1 => ?_
    cases x with
    | true =>
      rw [if_pos rfl] at h ⊢
      exact qb F0 H0 F1 H1 σ env s1 d s' _ (G.step st1 ok1) h fun F2 H2 st2 ok2 => q F2 H2 (st1.then st2 G.ok ok2) ok2
    | false =>
      rw [if_neg (by decide)] at h ⊢
      cases h
      exact q F1 H1 st1 ok1
theorem wv_or (ha : TV X k O a ga) (hb : WV X k O (.BoolOp .Or (b :: es) pos) gb) : WV X k O (.BoolOp .Or (a :: b :: es) pos) (fOrT ga gb) := by
  obtain ⟨ta, pa, qa⟩ := ha
  obtain ⟨tb, pb, qb⟩ := hb
  refine ⟨_, pw_or pa pb, fun F0 H0 F H σ env s d s' Q G h q => ?_⟩
  unfold fOrT at h
  cases e1 : ga env s with
  | none => rw [e1] at h; cases h
  | some p =>
    obtain ⟨x, s1⟩ := p
    rw [e1] at h
    simp only [Option.bind_some] at h
    refine qa F0 H0 F H σ env s x s1 _ G e1 fun F1 H1 st1 ok1 => ?_
    cases x with
    | false =>
      rw [if_neg (by decide)] at h ⊢
      exact qb F0 H0 F1 H1 σ env s1 d s' _ (G.step st1 ok1) h fun F2 H2 st2 ok2 => q F2 H2 (st1.then st2 G.ok ok2) ok2
    | true =>
      rw [if_pos rfl] at h ⊢
      cases h
      exact q F1 H1 st1 ok1
/-- .. as values -/
def fAndV (f g : FE) : FE := fun env s => (f env s).bind fun p => (truD p.1).bind fun bb => if bb = true then g env p.2 else some p
def fOrV (f g : FE) : FE := fun env s => (f env s).bind fun p => (truD p.1).bind fun bb => if bb = true then some p else g env p.2
theorem ev_one {op : BoolOp} (ha : EV X k O a fa) : EV X k O (.BoolOp op [a] pos) fa := let ⟨t, p, q⟩ := ha; ⟨t, pe_one p, q⟩
theorem ev_and (ha : EV X k O a fa) (hb : EV X k O (.BoolOp .And (b :: es) pos) fb) : EV X k O (.BoolOp .And (a :: b :: es) pos) (fAndV fa fb) := by
  obtain ⟨ta, pa, qa⟩ := ha
  obtain ⟨tb, pb, qb⟩ := hb
  refine ⟨_, pe_andT pa pb, fun F0 H0 F H σ env s d s' Q G h q => ?_⟩
  unfold fAndV at h
  cases e1 : fa env s with
  | none => rw [e1] at h; cases h
  | some p =>
    obtain ⟨x, s1⟩ := p
    rw [e1] at h
    simp only [Option.bind_some] at h
    cases e2 : truD x with
    | none => rw [e2] at h; cases h
    | some bb =>
    rw [e2] at h
    simp only [Option.bind_some] at h
    refine qa F0 H0 F H σ env s x s1 _ G e1 fun v F1 H1 st1 ok1 r1 => ⟨bb, tru_ok e2 r1, ?_⟩
    cases bb with
    | true =>
      rw [if_pos rfl] at h ⊢
      exact qb F0 H0 F1 H1 σ env s1 d s' _ (G.step st1 ok1) h fun u F2 H2 st2 ok2 r2 => q u F2 H2 (st1.then st2 G.ok ok2) ok2 r2
    | false =>
      rw [if_neg (by decide)] at h ⊢
      cases h
      exact q v F1 H1 st1 ok1 r1
theorem ev_or (ha : EV X k O a fa) (hb : EV X k O (.BoolOp .Or (b :: es) pos) fb) : EV X k O (.BoolOp .Or (a :: b :: es) pos) (fOrV fa fb) := by
  obtain ⟨ta, pa, qa⟩ := ha
  obtain ⟨tb, pb, qb⟩ := hb
  refine ⟨_, pe_orT pa pb, fun F0 H0 F H σ env s d s' Q G h q => ?_⟩
  unfold fOrV at h
  cases e1 : fa env s with
  | none => rw [e1] at h; cases h
  | some p =>
    obtain ⟨x, s1⟩ := p
    rw [e1] at h
    simp only [Option.bind_some] at h
    cases e2 : truD x with
    | none => rw [e2] at h; cases h
    | some bb =>
    rw [e2] at h
    simp only [Option.bind_some] at h
    refine qa F0 H0 F H σ env s x s1 _ G e1 fun v F1 H1 st1 ok1 r1 => ⟨bb, tru_ok e2 r1, ?_⟩
    cases bb with
    | false =>
      rw [if_neg (by decide)] at h ⊢
      exact qb F0 H0 F1 H1 σ env s1 d s' _ (G.step st1 ok1) h fun u F2 H2 st2 ok2 r2 => q u F2 H2 (st1.then st2 G.ok ok2) ok2 r2
    | true =>
      rw [if_pos rfl] at h ⊢
      cases h
      exact q v F1 H1 st1 ok1 r1
def fNotV (f : FE) : FE := fun env s => (f env s).bind fun p => (truD p.1).map fun bb => (.py (.bool (!bb)), p.2)
theorem ev_not (ha : EV X k O a fa) : EV X k O (.UnaryOp .Not a pos) (fNotV fa) := by
  obtain ⟨ta, pa, qa⟩ := ha
  refine ⟨_, pe_notT pa, fun F0 H0 F H σ env s d s' Q G h q => ?_⟩
  unfold fNotV at h
  cases e1 : fa env s with
  | none => rw [e1] at h; cases h
  | some p =>
    obtain ⟨x, s1⟩ := p
    rw [e1] at h
    simp only [Option.bind_some] at h
    cases e2 : truD x with
    | none => rw [e2] at h; cases h
    | some bb =>
    rw [e2] at h
    simp only [Option.map_some, Option.some.injEq, Prod.mk.injEq] at h
    obtain ⟨rfl, rfl⟩ := h
    exact qa F0 H0 F H σ env s x s1 _ G e1 fun v F1 H1 st1 ok1 r1 => ⟨bb, tru_ok e2 r1, q _ F1 H1 st1 ok1 (.bl _)⟩
def fIf (g : FT) (fa fb : FE) : FE := fun env s => (g env s).bind fun p => if p.1 = true then fa env p.2 else fb env p.2
theorem ev_if (hc : TV X k O c gc) (ha : EV X k O a fa) (hb : EV X k O b fb) : EV X k O (.IfExp c a b pos) (fIf gc fa fb) := by
  obtain ⟨tc, pc, qc⟩ := hc
  obtain ⟨ta, pa, qa⟩ := ha
  obtain ⟨tb, pb, qb⟩ := hb
  refine ⟨_, pe_ifExp pc pa pb, fun F0 H0 F H σ env s d s' Q G h q => ?_⟩
  unfold fIf at h
  cases e1 : gc env s with
  | none => rw [e1] at h; cases h
  | some p =>
    obtain ⟨x, s1⟩ := p
    rw [e1] at h
    simp only [Option.bind_some] at h
    refine qc F0 H0 F H σ env s x s1 _ G e1 fun F1 H1 st1 ok1 => ?_
    cases x with
    | true =>
      rw [if_pos rfl] at h ⊢
      exact qa F0 H0 F1 H1 σ env s1 d s' _ (G.step st1 ok1) h fun u F2 H2 st2 ok2 r2 => q u F2 H2 (st1.then st2 G.ok ok2) ok2 r2
    | false =>
      rw [if_neg (by decide)] at h ⊢
      exact qb F0 H0 F1 H1 σ env s1 d s' _ (G.step st1 ok1) h fun u F2 H2 st2 ok2 r2 => q u F2 H2 (st1.then st2 G.ok ok2) ok2 r2
def fNeg (f : FE) : FE := fun env s => (f env s).bind fun p => match p.1 with | .py (.int i) => some (.py (.int (-i)), p.2) | _ => none
theorem ev_neg (ha : EV X k O a fa) : EV X k O (.UnaryOp .USub a pos) (fNeg fa) := by
  obtain ⟨ta, pa, qa⟩ := ha
  refine ⟨_, pe_un un_neg pa, fun F0 H0 F H σ env s d s' Q G h q => ?_⟩
  unfold fNeg at h
  cases e1 : fa env s with
  | none => rw [e1] at h; cases h
  | some p =>
    obtain ⟨x, s1⟩ := p
    rw [e1] at h
    simp only [Option.bind_some] at h
    split at h
    · rename_i i hx
      cases h
      refine qa F0 H0 F H σ env s _ _ _ G e1 fun v F1 H1 st1 ok1 r1 => ?_
      cases r1
      exact ⟨_, rfl, q _ F1 H1 st1 ok1 (.int _)⟩
    · cases h

/-! ### slices -/
abbrev FO := EnvD → S → Option (Option Int × S)
def OV (X : Cx) (k : Dk) (O : List Nat) (e : Option Expr) (f : FO) : Prop :=
  ∃ t, PO X e t ∧ ∀ F0 H0 F H σ env s d s' (Q : Option Int → Hp → Prop), Good X.K k F0 H0 F H σ O env s → f env s = some (d, s') → (∀ F' H', Stp k F F' H H' → Ok k F' H' s' → Q d H') → t σ H Q
def oNone : FO := fun _ s => some (none, s)
def oSome (f : FE) : FO := fun env s => (f env s).bind fun p => match p.1 with | .py (.int i) => some (some i, p.2) | _ => none
theorem ov_none : OV X k O none oNone := ⟨_, po_none, fun F0 H0 F H σ env s d s' Q G h q => by cases h; exact q F H .refl G.ok⟩
theorem ov_some (ha : EV X k O a fa) : OV X k O (some a) (oSome fa) := by
  obtain ⟨ta, pa, qa⟩ := ha
  refine ⟨_, po_some pa, fun F0 H0 F H σ env s d s' Q G h q => ?_⟩
  unfold oSome at h
  cases e1 : fa env s with
  | none => rw [e1] at h; cases h
  | some p =>
    obtain ⟨x, s1⟩ := p
    rw [e1] at h
    simp only [Option.bind_some] at h
    split at h
    · rename_i i hx
      cases h
      refine qa F0 H0 F H σ env s _ _ _ G e1 fun v F1 H1 st1 ok1 r1 => ?_
      cases r1
      exact ⟨_, rfl, q F1 H1 st1 ok1⟩
    · cases h
def cutP (xs : List PyData) (lo hi : Option Int) : List PyData := (xs.drop (HT.sIx xs.length 0 lo)).take (HT.sIx xs.length xs.length hi - HT.sIx xs.length 0 lo)
theorem cut_rps {K : PySem.W.Frag} {F : Fz} {H : Hp} {ds : List PyData} {vs : List V} (r : Rps K F H ds vs) (lo hi : Option Int) : Rps K F H (cutP ds lo hi) (cutV vs lo hi) := by
  unfold cutP cutV
  rw [r.length]
  exact (r.drop _).take _
def slG : D → Option Int → Option Int → Option D
  | .py (.list ds), lo, hi => some (.py (.list (cutP ds lo hi)))
  | .py (.tuple ds), lo, hi => some (.py (.tuple (cutP ds lo hi)))
  | _, _, _ => none
def rSlD (K : PySem.W.Frag) : V → Option Int → Option Int → Hp → VK → Prop := fun x lo hi H Q => rSlL K x lo hi H Q ∨ rSlA K x lo hi H Q
def fSl (f : FE) (lo hi : FO) : FE := fun env s => (f env s).bind fun p => (lo env p.2).bind fun l => (hi env l.2).bind fun h => (slG p.1 l.1 h.1).map fun d => (d, h.2)
theorem cut_whole {xs : List PyData} {lo hi : Option Int} (h : HT.sIx xs.length 0 lo = 0 ∧ HT.sIx xs.length xs.length hi = xs.length) : cutP xs lo hi = xs := by
  unfold cutP
  rw [h.1, h.2, List.drop_zero, Nat.sub_zero, List.take_length]
theorem ev_slice {lo hi : Option Expr} {fl fh : FO} {p2 : Pos} (ha : EV X k O a fa) (hl : OV X k O lo fl) (hh : OV X k O hi fh) : EV X k O (.Subscript a (.Slice lo hi none p2) pos) (fSl fa fl fh) := by
  obtain ⟨ta, pa, qa⟩ := ha
  obtain ⟨tl, pl, ql⟩ := hl
  obtain ⟨th, ph, qh⟩ := hh
  refine ⟨_, pe_slice (sl_list.or sl_tupA : SlR X (rSlD X.K)) pa pl ph, fun F0 H0 F H σ env s d s' Q G h q => ?_⟩
  unfold fSl at h
  cases e1 : fa env s with
  | none => rw [e1] at h; cases h
  | some p =>
  obtain ⟨x, s1⟩ := p
  rw [e1] at h
  simp only [Option.bind_some] at h
  cases e2 : fl env s1 with
  | none => rw [e2] at h; cases h
  | some p =>
  obtain ⟨l, s2⟩ := p
  rw [e2] at h
  simp only [Option.bind_some] at h
  cases e3 : fh env s2 with
  | none => rw [e3] at h; cases h
  | some p =>
  obtain ⟨u, s3⟩ := p
  rw [e3] at h
  simp only [Option.bind_some] at h
  cases e4 : slG x l u with
  | none => rw [e4] at h; cases h
  | some d' =>
  rw [e4] at h
  simp only [Option.map_some, Option.some.injEq, Prod.mk.injEq] at h
  obtain ⟨rfl, rfl⟩ := h
  refine qa F0 H0 F H σ env s x s1 _ G e1 fun v F1 H1 st1 ok1 r1 => ?_
  refine ql F0 H0 F1 H1 σ env s1 l s2 _ (G.step st1 ok1) e2 fun F2 H2 st2 ok2 => ?_
  have st12 := st1.then st2 G.ok ok2
  refine qh F0 H0 F2 H2 σ env s2 u s3 _ (G.step st12 ok2) e3 fun F3 H3 st3 ok3 => ?_
  have st13 := st12.then st3 G.ok ok3
  have r3 := (r1.ext (st2.ext ok1)).ext (st3.ext ok2)
  have fin : ∀ {w F' H'}, Stp k F3 F' H3 H' → Ok k F' H' s3 → Rep X.K k F' H' d' w → Q w H' := fun st ok r => q _ _ _ (st13.then st G.ok ok) ok r
  unfold slG at e4
  split at e4
  · cases e4
    cases r3 with
    | lst ha rr => exact .inl ⟨_, _, rfl, ha.sq, fun p hp => new_lst (X := X) ok3 hp (cut_rps rr l u) fun _ _ _ st ok r => fin st ok r⟩
  · cases e4
    cases r3 with
    | tup ha rr =>
      rename_i ds a xs
      refine .inr ⟨_, _, rfl, ha.sq, fun hw => ?_, fun hw p hp => new_tup (X := X) ok3 hp (cut_rps rr l u) fun _ _ _ st ok r => fin st ok r⟩
      rw [← rr.length] at hw
      refine fin .refl ok3 ?_
      rw [cut_whole hw]
      exact .tup ha rr
  · cases e4
/-- xs[::-1] of a list -/
def fRev (f : FE) : FE := fun env s => (f env s).bind fun p => match p.1 with | .py (.list ds) => some (.py (.list ds.reverse), p.2) | _ => none
theorem ev_rev {kk : Nat} {p1 p2 p3 : Pos} (ha : EV X k O a fa) : EV X k O (.Subscript a (.Slice none none (some (.UnaryOp .USub (.Constant (.int 1) kk p1) p2)) p3) pos) (fRev fa) := by
  obtain ⟨ta, pa, qa⟩ := ha
  refine ⟨_, pe_revL pa, fun F0 H0 F H σ env s d s' Q G h q => ?_⟩
  unfold fRev at h
  cases e1 : fa env s with
  | none => rw [e1] at h; cases h
  | some p =>
    obtain ⟨x, s1⟩ := p
    rw [e1] at h
    simp only [Option.bind_some] at h
    split at h
    · rename_i ds hx
      cases h
      refine qa F0 H0 F H σ env s _ _ _ G e1 fun v F1 H1 st1 ok1 r1 => ?_
      cases r1 with
      | lst ha rr => exact ⟨_, _, rfl, ha.sq, fun p hp => new_lst (X := X) ok1 hp rr.reverse fun v2 F2 H2 st ok r => q v2 F2 H2 (st1.then st G.ok ok) ok r⟩
    · cases h
end
end Rf

namespace Rf
open PySem PySem.Spec PyProof.Rows L2
section
variable {K : PySem.W.Frag} {k : Dk} {F0 F F' F1 : Fz} {H0 H H' H1 : Hp} {σ : L2.St} {O : List Nat} {env : EnvD} {s s' : S}

/-! ### slots -/
def maskD (O : List Nat) (env : EnvD) : EnvD := match O with
  | [] => env
  | i :: r => (maskD r env).set i none
def wipeD (env : EnvD) : List Nat → EnvD
  | [] => env
  | v :: vs => (wipeD env vs).set v none
theorem wipeD_len (env : EnvD) : ∀ vs : List Nat, (wipeD env vs).length = env.length
  | [] => rfl
  | v :: vs => by unfold wipeD; rw [List.length_set, wipeD_len env vs]
theorem maskD_eq (env : EnvD) : ∀ O : List Nat, maskD O env = wipeD env O
  | [] => rfl
  | i :: r => by unfold maskD wipeD; rw [maskD_eq env r]
theorem wipeD_some {env : EnvD} {i : Nat} {d : D} : ∀ {vs : List Nat}, (wipeD env vs)[i]? = some (some d) → env[i]? = some (some d) ∧ i ∉ vs
  | [], h => ⟨h, by simp⟩
  | v :: vs, h => by
    unfold wipeD at h
    by_cases e : v = i
    · subst e
      by_cases hl : v < (wipeD env vs).length
      · rw [List.getElem?_set_self hl] at h; cases h
      · rw [List.getElem?_eq_none (by rw [List.length_set]; omega)] at h; cases h
    · rw [List.getElem?_set_ne e] at h
      obtain ⟨h1, h2⟩ := wipeD_some h
      exact ⟨h1, fun z => (List.mem_cons.mp z).elim (fun w => e w.symm) h2⟩
theorem wipe_keep {σ : L2.St} {i : Nat} {vs : List Nat} {v : V} (h : σ[i]? = some (some v)) (n : i ∉ vs) : (wipe σ vs)[i]? = some (some v) := by
  rw [wipe_out n]; exact h

/-- a fresh start: what stands now is the ground -/
theorem Good.rebase (g : Good K k F0 H0 F H σ O env s) : Good K k F H F H σ [] (maskD O env) s := by
  rw [maskD_eq]
  refine ⟨g.ok, .refl, (by rw [g.ok.da]; exact fun z => nomatch z), (by rw [g.ok.db]; exact fun z => nomatch z), by rw [wipeD_len]; exact g.len, fun i d h1 _ => ?_, fun i d _ h2 => absurd h2 (by simp), fun i j d d' p h2 => absurd h2 (by simp)⟩
  obtain ⟨e1, e2⟩ := wipeD_some h1
  exact g.val i d e1 e2
theorem Good.wiped (g : Good K k F0 H0 F H σ [] env s) (vs : List Nat) : Good K k F0 H0 F H (wipe σ vs) [] (wipeD env vs) s := by
  refine ⟨g.ok, g.st, g.ka, g.kb, by rw [wipeD_len, wipe_length]; exact g.len, fun i d h1 _ => ?_, fun i d _ h2 => absurd h2 (by simp), fun i j d d' p h2 => absurd h2 (by simp)⟩
  obtain ⟨e1, e2⟩ := wipeD_some h1
  obtain ⟨v, e3, r⟩ := g.val i d e1 (by simp)
  exact ⟨v, wipe_keep e3 e2, r⟩
/-- a slot is stored -/
theorem Good.store {i : Nat} {d : D} {v : V} (g : Good K k F0 H0 F H σ O env s) (hi : i ∉ O) (r : Rep K k F H d v) : Good K k F0 H0 F H (σ.set i (some v)) O (env.set i (some d)) s := by
  have ne : ∀ j, j ∈ O → i ≠ j := fun j h e => hi (e ▸ h)
  refine ⟨g.ok, g.st, g.ka, g.kb, by rw [List.length_set, List.length_set]; exact g.len, fun j d' h1 h2 => ?_, fun j d' h1 h2 => ?_, fun j j' d1 d2 p o1 o2 h1 h2 h3 h4 => ?_⟩
  · by_cases e : i = j
    · subst e
      have hl : i < env.length := by
        have := (List.getElem?_eq_some_iff.mp h1).1
        rw [List.length_set] at this
        exact this
      rw [List.getElem?_set_self hl] at h1
      cases h1
      exact ⟨v, List.getElem?_set_self (by rw [← g.len]; exact hl), r⟩
    · rw [List.getElem?_set_ne e] at h1 ⊢
      exact g.val j d' h1 h2
  · rw [List.getElem?_set_ne (ne j h2)] at h1 ⊢
    exact g.own j d' h1 h2
  · rw [List.getElem?_set_ne (ne j o1)] at h1 h3
    rw [List.getElem?_set_ne (ne j' o2)] at h2 h4
    exact g.apart j j' d1 d2 p o1 o2 h1 h2 h3 h4
/-- an object that nobody knows is laid or changed -/
theorem Good.write {p : Addr} {o : HO} (g : Good K k F0 H0 F H σ [] env s) (nf : ¬F p) (n0 : H0 p = none) : Good K k F0 H0 F (upd H p o) σ [] env s := by
  have ka : k.a ≠ p := fun e => g.ka (e ▸ n0)
  have kb : k.b ≠ p := fun e => g.kb (e ▸ n0)
  have ne : ∀ a, F a → a ≠ p := fun a f e => nf (e ▸ f)
  have ex : Ext F F H (upd H p o) := ⟨fun _ h => h, fun a u f h => by rw [upd_ne (ne a f)]; exact h⟩
  refine ⟨⟨fun a f => by rw [upd_ne (ne a f)]; exact g.ok.fok a f, g.ok.ab, g.ok.na, g.ok.nb, by rw [upd_ne ka]; exact g.ok.da, by rw [upd_ne kb]; exact g.ok.db, g.ok.sz⟩,
    ⟨g.st.mono, fun a u h1 h2 h => by rw [upd_ne (ne_of_none h n0)]; exact g.st.keep a u h1 h2 h, g.st.new⟩, g.ka, g.kb, g.len, fun i d h1 h2 => ?_, fun i d _ h2 => absurd h2 (by simp), fun i j d d' p h2 => absurd h2 (by simp)⟩
  obtain ⟨v, e1, r⟩ := g.val i d h1 h2
  exact ⟨v, e1, r.ext ex⟩
end

/-! ### targets -/
abbrev FG := EnvD → PyData → Option EnvD
def GV (X : Cx) (k : Dk) (O : List Nat) (tg : Expr) (f : FG) (vs : List Nat) : Prop :=
  ∃ t : TG, PG X tg t ∧ ∀ F0 H0 F H σ env s p v env' (Q : L2.St → Hp → Prop), Good X.K k F0 H0 F H σ O env s → Rp X.K F H p v → f env p = some env' →
    (∀ σ', Good X.K k F0 H0 F H σ' O env' s → wipe σ' vs = wipe σ vs → Q σ' H) → t v σ H Q
abbrev FGs := EnvD → List PyData → Option EnvD
def GVs (X : Cx) (k : Dk) (O : List Nat) (tgs : List Expr) (f : FGs) (vs : List Nat) : Prop :=
  ∃ t : TGs, PGs X tgs t ∧ ∀ F0 H0 F H σ env s ps xs env' (Q : L2.St → Hp → Prop), Good X.K k F0 H0 F H σ O env s → Rps X.K F H ps xs → f env ps = some env' →
    (∀ σ', Good X.K k F0 H0 F H σ' O env' s → wipe σ' vs = wipe σ vs → Q σ' H) → t xs σ H Q
section
variable {X : Cx} {k : Dk} {O : List Nat} {pos : Pos} {vs : List Nat}
theorem wipe_set {σ : L2.St} {i : Nat} {v : Option V} : ∀ {vs : List Nat}, i ∈ vs → wipe (σ.set i v) vs = wipe σ vs
  | [], h => absurd h (by simp)
  | w :: vs, h => by
    unfold wipe
    by_cases e : i ∈ vs
    · rw [wipe_set e]
    · have hw : i = w := (List.mem_cons.mp h).elim id fun z => absurd z e
      subst hw
      have sw : ∀ {us : List Nat}, i ∉ us → wipe (σ.set i v) us = (wipe σ us).set i v := by
        intro us
        induction us with
        | nil => intro _; rfl
        | cons u us ih =>
          intro hn
          unfold wipe
          rw [ih fun z => hn (List.mem_cons_of_mem _ z), List.set_comm _ _ fun z => hn (by rw [← z]; exact List.mem_cons_self)]
      rw [sw e, List.set_set]
theorem wipe_idem {σ : L2.St} : ∀ {vs us : List Nat}, (∀ i ∈ us, i ∈ vs) → wipe (wipe σ us) vs = wipe σ vs
  | vs, [], _ => rfl
  | vs, u :: us, h => by
    show wipe ((wipe σ us).set u none) vs = wipe σ vs
    rw [wipe_set (h u List.mem_cons_self)]
    exact wipe_idem fun i hi => h i (List.mem_cons_of_mem _ hi)
def gSet (i : Nat) : FG := fun env p => some (env.set i (some (.py p)))
theorem gv_name {i : Nat} {x : Str} (hN : X.N.Nodup) (hi : X.N[i]? = some x) (hx : Loc X.env.scope x) (hf : X.fn x = true ∨ X.env.scope.names.lookup x = some .local) (ho : i ∉ O) (hv : i ∈ vs) : GV X k O (.Name x pos) (gSet i) vs :=
  ⟨_, pg_name hN hi hx hf, fun F0 H0 F H σ env s p v env' Q G r h q => by
    cases h
    exact q _ (G.store ho (d := .py p) r) (wipe_set hv)⟩
def gsNil : FGs := fun env ps => match ps with | [] => some env | _ => none
def gsCons (f : FG) (g : FGs) : FGs := fun env ps => match ps with | p :: r => (f env p).bind fun e => g e r | [] => none
theorem gvs_nil : GVs X k O [] gsNil vs := ⟨_, pgs_nil, fun F0 H0 F H σ env s ps xs env' Q G r h q => by
  unfold gsNil at h
  split at h
  · cases h; cases r; exact ⟨rfl, q σ G rfl⟩
  · cases h⟩
theorem gvs_cons {e : Expr} {es : List Expr} {f : FG} {g : FGs} (h1 : GV X k O e f vs) (h2 : GVs X k O es g vs) (hs : (assignEach (e :: es) X.env).map (·.2) = assign e X.env :: (assignEach es X.env).map (·.2)) : GVs X k O (e :: es) (gsCons f g) vs := by
  obtain ⟨t1, p1, q1⟩ := h1
  obtain ⟨t2, p2, q2⟩ := h2
  refine ⟨_, pgs_cons p1 p2 hs, fun F0 H0 F H σ env s ps xs env' Q G r h q => ?_⟩
  unfold gsCons at h
  split at h
  · rename_i p ps'
    cases r with
    | cons ra rb =>
      cases e1 : f env p with
      | none => rw [e1] at h; cases h
      | some en =>
        rw [e1] at h
        refine ⟨_, _, rfl, q1 F0 H0 F H σ env s p _ en _ G ra e1 fun σ1 G1 w1 => ?_⟩
        exact q2 F0 H0 F H σ1 en s ps' _ env' Q G1 rb h fun σ2 G2 w2 => q σ2 G2 (w2.trans w1)
  · cases h
theorem PG.or {tg : Expr} {t u : TG} (h1 : PG X tg t) (h2 : PG X tg u) : PG X tg (fun v σ H Q => t v σ H Q ∨ u v σ H Q) :=
  ⟨fun pins s σ H v w Q I r h => h.elim (h1.run pins s σ H v w Q I r) (h2.run pins s σ H v w Q I r)⟩
def gSeq (n : Nat) (g : FGs) : FG := fun env p => match items p with | some ds => if ds.length = n then g env ds else none | none => none
theorem gv_tup {es : List Expr} {kk : Nat} {g : FGs} {n : Nat} (hc : X.calm = true) (h : GVs X k O es g vs) (hn : (assignEach es X.env).length = n) (hst : (assignEach es X.env).findIdx? (·.1) = none) : GV X k O (.Tuple es kk pos) (gSeq n g) vs := by
  obtain ⟨t, p, q0⟩ := h
  refine ⟨_, PG.or (pg_tup hc p hn hst) (pg_unl hc p hn hst), fun F0 H0 F H σ env s d v env' Q G r h q => ?_⟩
  unfold gSeq at h
  split at h
  · rename_i ds hi
    split at h
    · rename_i hl
      cases d <;> simp only [items, reduceCtorEq, Option.some.injEq] at hi
      · subst hi
        cases r with
        | lst ha rr => exact .inr ⟨_, _, rfl, ha.sq, by rw [← rr.length]; exact hl, q0 F0 H0 F H σ env s _ _ env' Q G rr h q⟩
      · subst hi
        cases r with
        | tup ha rr => exact .inl ⟨_, _, rfl, ha.sq, by rw [← rr.length]; exact hl, q0 F0 H0 F H σ env s _ _ env' Q G rr h q⟩
    · cases h
  · cases h
end

/-! ### what is walked -/
abbrev FI := EnvD → S → Option (List PyData × S)
def IterD (K : PySem.W.Frag) (k : Dk) (F1 : Fz) (H1 : Hp) (J : It) (ds : List PyData) : Prop :=
  ∀ F H s i, Ext F1 F H1 H → Ok k F H s → (∀ p, ds[i]? = some p → J.go i H ∧ ∀ x H', J.yld i H x H' → ∃ F', Stp k F F' H H' ∧ Ok k F' H' s ∧ Rp K F' H' p x) ∧ (ds.length ≤ i → J.stop i H)
def IV (X : Cx) (k : Dk) (O : List Nat) (tg iter : Expr) (f : FI) : Prop :=
  ∃ wi : TI, PI X tg iter wi ∧ ∀ F0 H0 F H σ env s ds s' (R : It → Hp → Prop), Good X.K k F0 H0 F H σ O env s → f env s = some (ds, s') →
    (∀ J F' H', Stp k F F' H H' → Ok k F' H' s' → IterD X.K k F' H' J ds → R J H') → wi σ H R
section
variable {X : Cx} {k : Dk} {O : List Nat} {tg e : Expr} {f : FE} {pos : Pos}
theorem PI.or {iter : Expr} {w1 w2 : TI} (h1 : PI X tg iter w1) (h2 : PI X tg iter w2) : PI X tg iter (fun σ H R => w1 σ H R ∨ w2 σ H R) :=
  ⟨fun pins s σ H R I h => h.elim (h1.run pins s σ H R I) (h2.run pins s σ H R I)⟩
def iItems (f : FE) : FI := fun env s => (f env s).bind fun p => match p.1 with | .py q => (items q).map fun ds => (ds, p.2) | _ => none
theorem iter_list {K : PySem.W.Frag} {F : Fz} {H : Hp} {a : Addr} {xs : List V} {ds : List PyData} (ha : LAt K F H a xs) (rr : Rps K F H ds xs) : IterD K k F H (Itl K a) ds := by
  intro F' H' s i ex ok
  have ha' := ha.ext ex
  have rr' := rr.ext ex
  refine ⟨fun p hp => ?_, fun hl => ⟨xs, ha'.sq, by rw [← rr.length]; exact hl⟩⟩
  obtain ⟨v, e1, e2⟩ := rr'.get hp
  refine ⟨⟨xs, v, ha'.sq, e1⟩, fun x H'' ⟨e, y⟩ => ?_⟩
  subst e
  have := y xs ha'.sq
  rw [e1] at this
  cases this
  exact ⟨F', .refl, ok, e2⟩
theorem iter_tup {K : PySem.W.Frag} {F : Fz} {H : Hp} {a : Addr} {xs : List V} {ds : List PyData} (ha : TAt K F H a xs) (rr : Rps K F H ds xs) : IterD K k F H (Itt K a) ds := by
  intro F' H' s i ex ok
  have ha' := ha.ext ex
  have rr' := rr.ext ex
  refine ⟨fun p hp => ?_, fun hl => ⟨xs, ha'.sq, by rw [← rr.length]; exact hl⟩⟩
  obtain ⟨v, e1, e2⟩ := rr'.get hp
  refine ⟨⟨xs, v, ha'.sq, e1⟩, fun x H'' ⟨e, y⟩ => ?_⟩
  subst e
  have := y xs ha'.sq
  rw [e1] at this
  cases this
  exact ⟨F', .refl, ok, e2⟩
/-- an expression that gives a list, or one that gives a tuple: by the library's two rules -/
theorem pi_seq {l : Expr} {tl : TE} (hl : PE X l tl) : PI X tg l (fun σ H R => iList X.K tl σ H R ∨ iTup X.K tl σ H R) :=
  ⟨fun pins s σ H R I h => h.elim ((pi_list hl).run pins s σ H R I) ((pi_tup hl).run pins s σ H R I)⟩
theorem iv_seq (he : EV X k O e f) : IV X k O tg e (iItems f) := by
  obtain ⟨t, p, qe⟩ := he
  refine ⟨_, pi_seq p, fun F0 H0 F H σ env s ds s' R G h q => ?_⟩
  unfold iItems at h
  cases e1 : f env s with
  | none => rw [e1] at h; cases h
  | some pp =>
  obtain ⟨d, s1⟩ := pp
  rw [e1] at h
  simp only [Option.bind_some] at h
  cases d with
  | py z =>
    simp only at h
    cases e2 : items z with
    | none => rw [e2] at h; cases h
    | some ys =>
    rw [e2] at h
    simp only [Option.map_some, Option.some.injEq, Prod.mk.injEq] at h
    obtain ⟨rfl, rfl⟩ := h
    cases z <;> simp only [items, reduceCtorEq, Option.some.injEq] at e2
    · subst e2
      refine .inl (qe F0 H0 F H σ env s _ _ _ G e1 fun v F1 H1 st1 ok1 r1 => ?_)
      cases r1 with
      | lst ha rr => exact ⟨_, rfl, ⟨_, ha.sq⟩, q _ F1 H1 st1 ok1 (iter_list ha rr)⟩
    · subst e2
      refine .inr (qe F0 H0 F H σ env s _ _ _ G e1 fun v F1 H1 st1 ok1 r1 => ?_)
      cases r1 with
      | tup ha rr => exact ⟨_, rfl, ⟨_, ha.sq⟩, q _ F1 H1 st1 ok1 (iter_tup ha rr)⟩
  | _ => cases h
/-- range(n), range(a, b) -/
def rngP (lo : Int) : Nat → List PyData
  | 0 => []
  | n + 1 => .int lo :: rngP (lo + 1) n
theorem rngP_len (lo : Int) (n : Nat) : (rngP lo n).length = n := by
  induction n generalizing lo with
  | zero => rfl
  | succ n ih => rw [rngP, List.length_cons, ih]
theorem rngP_get (lo : Int) (n i : Nat) (p : PyData) (h : (rngP lo n)[i]? = some p) : i < n ∧ p = .int (lo + i) := by
  induction n generalizing lo i with
  | zero => simp [rngP] at h
  | succ n ih =>
    cases i with
    | zero =>
      simp [rngP] at h
      exact ⟨Nat.succ_pos _, by rw [← h]; simp⟩
    | succ i =>
      simp [rngP] at h
      obtain ⟨h1, h2⟩ := ih (lo + 1) i h
      refine ⟨by omega, ?_⟩
      rw [h2]
      congr 1
      omega
theorem iter_range {K : PySem.W.Frag} {F : Fz} {H : Hp} {lo : Int} {n : Nat} : IterD K k F H (Itr lo n) (rngP lo n) := by
  intro F' H' s i ex ok
  refine ⟨fun p hp => ?_, fun hl => by rw [rngP_len] at hl; exact hl⟩
  obtain ⟨h1, h2⟩ := rngP_get lo n i p hp
  subst h2
  refine ⟨h1, fun x H'' ⟨e1, e2⟩ => ?_⟩
  subst e1 e2
  exact ⟨F', .refl, ok, .int _⟩
def rgOk (j : Int) : Bool := decide (-(2 ^ 62) ≤ j) && decide (j < 2 ^ 62)
def rng1 : List D → Option (List PyData)
  | [.py (.int j)] => if rgOk j = true then some (rngP 0 j.toNat) else none
  | _ => none
def rng2 : List D → Option (List PyData)
  | [.py (.int i), .py (.int j)] => if (rgOk i && rgOk j) = true then some (rngP i (j - i).toNat) else none
  | _ => none
def iArgs (g : List D → Option (List PyData)) (fs : FA) : FI := fun env s => (fs env s).bind fun p => (g p.1).map fun d => (d, p.2)
theorem iArgs_some {g : List D → Option (List PyData)} {fs : FA} {env : EnvD} {s s' : S} {d : List PyData} (h : iArgs g fs env s = some (d, s')) : ∃ ds, fs env s = some (ds, s') ∧ g ds = some d := by
  unfold iArgs at h
  cases e1 : fs env s with
  | none => rw [e1] at h; cases h
  | some p =>
    obtain ⟨ds, s1⟩ := p
    rw [e1] at h
    simp only [Option.bind_some] at h
    cases e2 : g ds with
    | none => rw [e2] at h; cases h
    | some q =>
      rw [e2] at h
      simp only [Option.map_some, Option.some.injEq, Prod.mk.injEq] at h
      obtain ⟨rfl, rfl⟩ := h
      exact ⟨ds, rfl, e2⟩
theorem iv_range1 {a : Expr} {fs : FA} {p : Pos} (hg : Gl X "range") (hm : X.mg "range" = none) (ha : AV X k O [a] fs) (hs : starEach [a] X.env = [(false, eval a X.env)]) : IV X k O tg (.Call (.Name "range" p) [a] [] pos) (iArgs rng1 fs) := by
  obtain ⟨t, pa, qa⟩ := ha
  refine ⟨_, pi_range1 hg hm pa hs, fun F0 H0 F H σ env s ds s' R G h q => ?_⟩
  obtain ⟨as, e1, e2⟩ := iArgs_some h
  refine qa F0 H0 F H σ env s as s' _ G e1 fun vs F1 H1 st1 ok1 r1 => ?_
  unfold rng1 at e2
  split at e2
  · split at e2
    · rename_i j hj
      cases e2
      cases r1 with
      | cons ra rb =>
        cases rb
        cases ra
        simp only [rgOk, Bool.and_eq_true, decide_eq_true_eq] at hj
        exact ⟨j, rfl, hj.1, hj.2, q _ F1 H1 st1 ok1 iter_range⟩
    · cases e2
  · cases e2
theorem iv_range2 {a b : Expr} {fs : FA} {p : Pos} (hg : Gl X "range") (hm : X.mg "range" = none) (ha : AV X k O [a, b] fs) (hs : starEach [a, b] X.env = [(false, eval a X.env), (false, eval b X.env)]) (hs2 : starEach [b] X.env = [(false, eval b X.env)]) : IV X k O tg (.Call (.Name "range" p) [a, b] [] pos) (iArgs rng2 fs) := by
  obtain ⟨t, pa, qa⟩ := ha
  refine ⟨_, pi_range2 hg hm pa hs hs2, fun F0 H0 F H σ env s ds s' R G h q => ?_⟩
  obtain ⟨as, e1, e2⟩ := iArgs_some h
  refine qa F0 H0 F H σ env s as s' _ G e1 fun vs F1 H1 st1 ok1 r1 => ?_
  unfold rng2 at e2
  split at e2
  · split at e2
    · rename_i i j hj
      cases e2
      cases r1 with
      | cons ra rb =>
        cases rb with
        | cons rc rd =>
          cases rd
          cases ra
          cases rc
          simp only [rgOk, Bool.and_eq_true, decide_eq_true_eq] at hj
          exact ⟨i, j, rfl, ⟨hj.1.1, hj.1.2, hj.2.1, hj.2.2⟩, q _ F1 H1 st1 ok1 iter_range⟩
    · cases e2
  · cases e2
/-- zip(xs, ys), two lists or two tuples -/
def zipP : List PyData → List PyData → List PyData
  | x :: xs, y :: ys => .tuple [x, y] :: zipP xs ys
  | _, _ => []
theorem zipP_get : ∀ {xs ys : List PyData} {i : Nat} {p : PyData}, (zipP xs ys)[i]? = some p → ∃ x y, xs[i]? = some x ∧ ys[i]? = some y ∧ p = .tuple [x, y]
  | [], _, _, _, h => by simp [zipP] at h
  | _ :: _, [], _, _, h => by simp [zipP] at h
  | x :: xs, y :: ys, 0, p, h => by simp [zipP] at h; exact ⟨x, y, rfl, rfl, h.symm⟩
  | x :: xs, y :: ys, i + 1, p, h => by
    simp only [zipP, List.getElem?_cons_succ] at h
    obtain ⟨x', y', h1, h2, h3⟩ := zipP_get h
    exact ⟨x', y', by simpa using h1, by simpa using h2, h3⟩
theorem zipP_len : ∀ {xs ys : List PyData} {i : Nat}, (zipP xs ys).length ≤ i → xs.length ≤ i ∨ ys.length ≤ i
  | [], _, _, _ => .inl (Nat.zero_le _)
  | _ :: _, [], _, _ => .inr (Nat.zero_le _)
  | x :: xs, y :: ys, 0, h => by simp [zipP] at h
  | x :: xs, y :: ys, i + 1, h => by
    simp only [zipP, List.length_cons] at h
    rcases zipP_len (xs := xs) (ys := ys) (i := i) (by omega) with z | z
    · exact .inl (by simp; omega)
    · exact .inr (by simp; omega)
def zipG : List D → Option (List PyData)
  | [.py (.list xs), .py (.list ys)] => some (zipP xs ys)
  | [.py (.tuple xs), .py (.tuple ys)] => some (zipP xs ys)
  | _ => none
theorem pair_new {K : PySem.W.Frag} {F : Fz} {H : Hp} {s : S} {T : Addr} {x y : V} {p q : PyData} (ok : Ok k F H s) (hT : H T = none) (rx : Rp K F H p x) (ry : Rp K F H q y) :
    ∃ F', Stp k F F' H (upd H T (.tup [x, y])) ∧ Ok k F' (upd H T (.tup [x, y])) s ∧ Rp K F' (upd H T (.tup [x, y])) (.tuple [p, q]) (.ref T) := by
  obtain ⟨st, ok'⟩ := alloc (o := .tup [x, y]) ok hT
  exact ⟨_, st, ok', .tup (.inl ⟨.inr rfl, upd_same⟩) (.cons (rx.ext (st.ext ok)) (.cons (ry.ext (st.ext ok)) .nil))⟩
theorem iter_zipL {K : PySem.W.Frag} {F : Fz} {H : Hp} {a b : Addr} {xs ys : List V} {ds es : List PyData} (ha : LAt K F H a xs) (hb : LAt K F H b ys) (rr : Rps K F H ds xs) (rq : Rps K F H es ys) : IterD K k F H (Itz K a b) (zipP ds es) := by
  intro F' H' s i ex ok
  have ha' := ha.ext ex
  have hb' := hb.ext ex
  have rr' := rr.ext ex
  have rq' := rq.ext ex
  refine ⟨fun p hp => ?_, fun hl => ⟨xs, ys, ha'.sq, hb'.sq, by rw [← rr.length, ← rq.length]; exact zipP_len hl⟩⟩
  obtain ⟨x, y, h1, h2, rfl⟩ := zipP_get hp
  obtain ⟨v, e1, e2⟩ := rr'.get h1
  obtain ⟨u, e3, e4⟩ := rq'.get h2
  refine ⟨⟨xs, ys, v, u, ha'.sq, hb'.sq, e1, e3⟩, fun z H'' ⟨T, x', y', e, hT, e5, f1, f2⟩ => ?_⟩
  have g1 := f1 xs ha'.sq
  have g2 := f2 ys hb'.sq
  rw [e1] at g1
  rw [e3] at g2
  cases g1; cases g2
  subst e e5
  exact pair_new ok hT e2 e4
theorem iter_zipT {K : PySem.W.Frag} {F : Fz} {H : Hp} {a b : Addr} {xs ys : List V} {ds es : List PyData} (ha : TAt K F H a xs) (hb : TAt K F H b ys) (rr : Rps K F H ds xs) (rq : Rps K F H es ys) : IterD K k F H (RZ.ItzT K a b) (zipP ds es) := by
  intro F' H' s i ex ok
  have ha' := ha.ext ex
  have hb' := hb.ext ex
  have rr' := rr.ext ex
  have rq' := rq.ext ex
  refine ⟨fun p hp => ?_, fun hl => ⟨xs, ys, ha'.sq, hb'.sq, by rw [← rr.length, ← rq.length]; exact zipP_len hl⟩⟩
  obtain ⟨x, y, h1, h2, rfl⟩ := zipP_get hp
  obtain ⟨v, e1, e2⟩ := rr'.get h1
  obtain ⟨u, e3, e4⟩ := rq'.get h2
  refine ⟨⟨xs, ys, v, u, ha'.sq, hb'.sq, e1, e3⟩, fun z H'' ⟨T, x', y', e, hT, e5, f1, f2⟩ => ?_⟩
  have g1 := f1 xs ha'.sq
  have g2 := f2 ys hb'.sq
  rw [e1] at g1
  rw [e3] at g2
  cases g1; cases g2
  subst e e5
  exact pair_new ok hT e2 e4
theorem iv_zip {a b : Expr} {fs : FA} {p tpos : Pos} {elts : List Expr} {kk : Nat} (hg : Gl X "zip") (hm : X.mg "zip" = none) (ha : AV X k O [a, b] fs) (hs : starEach [a, b] X.env = (false, eval a X.env) :: starEach [b] X.env) (hpl : (backTo pos (starEach [b] X.env)).any (·.1) = false) :
    IV X k O (.Tuple elts kk tpos) (.Call (.Name "zip" p) [a, b] [] pos) (iArgs zipG fs) := by
  obtain ⟨t, pa, qa⟩ := ha
  refine ⟨_, RZ.pi_zipA hg hm pa hs hpl, fun F0 H0 F H σ env s ds s' R G h q => ?_⟩
  obtain ⟨as, e1, e2⟩ := iArgs_some h
  refine qa F0 H0 F H σ env s as s' _ G e1 fun vs F1 H1 st1 ok1 r1 => ?_
  unfold zipG at e2
  split at e2
  · cases e2
    cases r1 with
    | cons ra rb =>
      cases rb with
      | cons rc rd =>
        cases rd
        cases ra with
        | lst h1 g1 =>
          cases rc with
          | lst h2 g2 => exact ⟨_, _, _, _, rfl, .inl ⟨h1.sq, h2.sq, q _ F1 H1 st1 ok1 (iter_zipL h1 h2 g1 g2)⟩⟩
  · cases e2
    cases r1 with
    | cons ra rb =>
      cases rb with
      | cons rc rd =>
        cases rd
        cases ra with
        | tup h1 g1 =>
          cases rc with
          | tup h2 g2 => exact ⟨_, _, _, _, rfl, .inr ⟨h1.sq, h2.sq, q _ F1 H1 st1 ok1 (iter_zipT h1 h2 g1 g2)⟩⟩
  · cases e2
end

/-! ### a comprehension of one clause -/
def TVs (X : Cx) (k : Dk) (O : List Nat) (ifs : List Expr) (f : FT) : Prop :=
  ∃ t, PTs X ifs t ∧ ∀ F0 H0 F H σ env s d s' (Q : Bool → Hp → Prop), Good X.K k F0 H0 F H σ O env s → f env s = some (d, s') → (∀ F' H', Stp k F F' H H' → Ok k F' H' s' → Q d H') → t σ H Q
def tTrue : FT := fun _ s => some (true, s)
section
variable {X : Cx} {k : Dk} {O : List Nat}
theorem tvs_nil : TVs X k O [] tTrue := ⟨_, pts_nil, fun F0 H0 F H σ env s d s' Q G h q => by cases h; exact q F H .refl G.ok⟩
theorem tvs_one {c : Expr} {g : FT} (h : TV X k O c g) : TVs X k O [c] g := let ⟨t, p, q⟩ := h; ⟨t, pts_one p, q⟩
def asP : D → Option PyData
  | .py p => some p
  | _ => none
def lcLoop (fg : FG) (ft : FT) (fe : FE) (env : EnvD) : List PyData → S → Option (List PyData × S)
  | [], s => some ([], s)
  | p :: ps, s => (fg env p).bind fun e1 => (ft e1 s).bind fun b => if b.1 = true then (fe e1 b.2).bind fun d => (asP d.1).bind fun q => (lcLoop fg ft fe env ps d.2).map fun r => (q :: r.1, r.2) else lcLoop fg ft fe env ps b.2
def fLc (O vs : List Nat) (fi : FI) (fg : FG) (ft : FT) (fe : FE) : FE := fun env s => (fi env s).bind fun ds => (lcLoop fg ft fe (wipeD (maskD O env) vs) ds.1 ds.2).bind fun r => if r.1.length ≤ big then some (.py (.list r.1), r.2) else none
/-! the one reading of a meaning: the same in every context with the same written part -/
def tE (K : PySem.W.Frag) (k : Dk) (O : List Nat) (f : FE) : TE := fun σ H Q => ∃ F0 H0 F env s d s', Good K k F0 H0 F H σ O env s ∧ f env s = some (d, s') ∧ ∀ v F' H', Stp k F F' H H' → Ok k F' H' s' → Rep K k F' H' d v → Q v H'
theorem EV.pe {e : Expr} {f : FE} (h : EV X k O e f) : PE X e (tE X.K k O f) := by
  obtain ⟨t, p, q⟩ := h
  exact ⟨fun pins s σ H Q I ⟨F0, H0, F, env, s1, d, s', G, e1, c⟩ => p.run pins s σ H Q I (q F0 H0 F H σ env s1 d s' Q G e1 c)⟩
def tTs (K : PySem.W.Frag) (k : Dk) (O : List Nat) (f : FT) : TT := fun σ H Q => ∃ F0 H0 F env s d s', Good K k F0 H0 F H σ O env s ∧ f env s = some (d, s') ∧ ∀ F' H', Stp k F F' H H' → Ok k F' H' s' → Q d H'
theorem TVs.pts {e : List Expr} {f : FT} (h : TVs X k O e f) : PTs X e (tTs X.K k O f) := by
  obtain ⟨t, p, q⟩ := h
  exact ⟨fun pins s σ H Q I ⟨F0, H0, F, env, s1, d, s', G, e1, c⟩ => p.run pins s σ H Q I (q F0 H0 F H σ env s1 d s' Q G e1 c)⟩
def tGd (K : PySem.W.Frag) (k : Dk) (O : List Nat) (f : FG) (vs : List Nat) : TG := fun v σ H Q => ∃ F0 H0 F env s p env', Good K k F0 H0 F H σ O env s ∧ Rp K F H p v ∧ f env p = some env' ∧ ∀ σ', Good K k F0 H0 F H σ' O env' s → wipe σ' vs = wipe σ vs → Q σ' H
theorem GV.pg {e : Expr} {f : FG} {vs : List Nat} (h : GV X k O e f vs) : PG X e (tGd X.K k O f vs) := by
  obtain ⟨t, p, q⟩ := h
  exact ⟨fun pins s σ H v u Q I r ⟨F0, H0, F, env, s1, d, env', G, e0, e1, c⟩ => p.run pins s σ H v u Q I r (q F0 H0 F H σ env s1 d v env' Q G e0 e1 c)⟩
theorem lc_sem {wi : TI} {fi : FI} {fg : FG} {ft : FT} {fe : FE} {vs : List Nat}
    (qi : ∀ F0 H0 F H σ env s ds s' (R : It → Hp → Prop), Good X.K k F0 H0 F H σ O env s → fi env s = some (ds, s') → (∀ J F' H', Stp k F F' H H' → Ok k F' H' s' → IterD X.K k F' H' J ds → R J H') → wi σ H R) :
    ∀ F0 H0 F H σ env s d s' (Q : VK), Good X.K k F0 H0 F H σ O env s → fLc O vs fi fg ft fe env s = some (d, s') → (∀ v F' H', Stp k F F' H H' → Ok k F' H' s' → Rep X.K k F' H' d v → Q v H') →
      tLc wi (tGd X.K k [] fg vs) (tTs X.K k [] ft) (tE X.K k [] fe) vs σ H Q := by
  intro F0 H0 F H σ env s d s' Q G h q
  unfold fLc at h
  cases e1 : fi env s with
  | none => rw [e1] at h; cases h
  | some pp =>
  obtain ⟨ds, s1⟩ := pp
  rw [e1] at h
  simp only [Option.bind_some] at h
  cases e2 : lcLoop fg ft fe (wipeD (maskD O env) vs) ds s1 with
  | none => rw [e2] at h; cases h
  | some pp =>
  obtain ⟨out, s2⟩ := pp
  rw [e2] at h
  simp only [Option.bind_some] at h
  split at h
  · rename_i hlen
    simp only [Option.some.injEq, Prod.mk.injEq] at h
    obtain ⟨rfl, rfl⟩ := h
    refine qi F0 H0 F H σ env s ds s1 _ G e1 fun J F1 H1 st1 ok1 it => ?_
    have G1 := ((G.step st1 ok1).rebase).wiped vs
    intro Dd hD
    have nFD : ¬F1 Dd := fun z => ok1.fok Dd z hD
    have n0 := ds.length
    -- the invariant of the loop
    refine ⟨fun i m Hc => m = ds.length - i ∧ i ≤ ds.length ∧ ∃ Fc sc acc xs rest, Good X.K k F1 H1 Fc Hc (wipe σ vs) [] (wipeD (maskD O env) vs) sc ∧ Hc Dd = some (.lst xs) ∧ Rps X.K Fc Hc acc xs ∧ ¬Fc Dd ∧ lcLoop fg ft fe (wipeD (maskD O env) vs) (ds.drop i) sc = some (rest, s2) ∧ acc ++ rest = out,
      ⟨ds.length, by omega, Nat.zero_le _, F1, s1, [], [], out, G1.write nFD hD, upd_same, .nil, nFD, e2, rfl⟩, ?_⟩
    rintro i m Hc ⟨rfl, hi, Fc, sc, acc, xs, rest, Gc, hDc, rc, nf, hl, htot⟩
    by_cases hlt : i < ds.length
    · obtain ⟨go, yl⟩ := (it Fc Hc sc i (Gc.st.ext ok1) Gc.ok).1 ds[i] (List.getElem?_eq_getElem hlt)
      rw [List.drop_eq_getElem_cons hlt] at hl
      unfold lcLoop at hl
      refine .inr ⟨go, fun Hn => i + 1 ≤ ds.length ∧ ∃ Fc sc acc xs rest, Good X.K k F1 H1 Fc Hn (wipe σ vs) [] (wipeD (maskD O env) vs) sc ∧ Hn Dd = some (.lst xs) ∧ Rps X.K Fc Hn acc xs ∧ ¬Fc Dd ∧ lcLoop fg ft fe (wipeD (maskD O env) vs) (ds.drop (i + 1)) sc = some (rest, s2) ∧ acc ++ rest = out,
        fun H' hn => ⟨ds.length - (i + 1), by omega, rfl, hn.1, hn.2⟩, fun x H' hy => ?_⟩
      obtain ⟨Fy, sty, oky, ry⟩ := yl x H' hy
      have Gy := Gc.step sty oky
      cases e3 : fg (wipeD (maskD O env) vs) ds[i] with
      | none => rw [e3] at hl; cases hl
      | some en =>
      rw [e3] at hl
      simp only [Option.bind_some] at hl
      refine ⟨F1, H1, Fy, _, sc, ds[i], en, Gy, ry, e3, fun σ2 G2 w2 => ⟨w2.trans (wipe_idem fun _ z => z), ?_⟩⟩
      cases e4 : ft en sc with
      | none => rw [e4] at hl; cases hl
      | some pp =>
      obtain ⟨bb, s3⟩ := pp
      rw [e4] at hl
      simp only [Option.bind_some] at hl
      have hD2 : ∀ {Fz' Hz'}, Stp k Fc Fz' Hc Hz' → Hz' Dd = some (.lst xs) := fun st => st.keep Dd _ (fun e => by rw [e] at hD; rw [ok1.da] at hD; cases hD) (fun e => by rw [e] at hD; rw [ok1.db] at hD; cases hD) hDc
      have nf2 : ∀ {Fz' Hz'}, Stp k Fc Fz' Hc Hz' → ¬Fz' Dd := fun st z => (st.new Dd z).elim nf fun w => by rw [hDc] at w; cases w
      refine ⟨F1, H1, Fy, en, sc, bb, s3, G2, e4, fun F3 H3 st3 ok3 => ?_⟩
      have stc3 := sty.then st3 Gc.ok ok3
      cases bb with
      | false =>
        dsimp only
        rw [if_neg (by decide)] at hl ⊢
        exact ⟨hlt, F3, s3, acc, xs, rest, Gc.step stc3 ok3, hD2 stc3, rc.ext (stc3.ext Gc.ok), nf2 stc3, hl, htot⟩
      | true =>
        dsimp only
        rw [if_pos rfl] at hl ⊢
        cases e5 : fe en s3 with
        | none => rw [e5] at hl; cases hl
        | some pp =>
        obtain ⟨de, s4⟩ := pp
        rw [e5] at hl
        simp only [Option.bind_some] at hl
        cases e6 : asP de with
        | none => rw [e6] at hl; cases hl
        | some qe' =>
        rw [e6] at hl
        simp only [Option.bind_some] at hl
        cases e7 : lcLoop fg ft fe (wipeD (maskD O env) vs) (ds.drop (i + 1)) s4 with
        | none => rw [e7] at hl; cases hl
        | some pp =>
        obtain ⟨r', s5⟩ := pp
        rw [e7] at hl
        simp only [Option.map_some, Option.some.injEq, Prod.mk.injEq] at hl
        obtain ⟨rfl, rfl⟩ := hl
        refine ⟨F1, H1, F3, en, s3, de, s4, G2.step st3 ok3, e5, fun y F4 H4 st4 ok4 r4 => ?_⟩
        have stc4 := stc3.then st4 Gc.ok ok4
        have ry4 : Rp X.K F4 H4 qe' y := by
          cases de with
          | py z => cases e6; exact r4
          | _ => cases e6
        have hx := rc.length
        refine ⟨xs, hD2 stc4, ?_, hlt, F4, s4, acc ++ [qe'], xs ++ [y], r', (Gc.step stc4 ok4).write (nf2 stc4) hD, upd_same, ?_, nf2 stc4, e7, by rw [List.append_assoc]; exact htot⟩
        · rw [big_eq, ← hx]
          rw [← htot, List.length_append, List.length_cons] at hlen
          omega
        · have rn := (rc.ext (stc4.ext Gc.ok)).append (.cons ry4 .nil)
          exact rn.ext ⟨fun _ z => z, fun a u f hh => by rw [upd_ne (fun (e : a = Dd) => nf2 stc4 (by rw [← e]; exact f))]; exact hh⟩
    · have ei : i = ds.length := by omega
      subst ei
      refine .inl ⟨(it Fc Hc sc _ (Gc.st.ext ok1) Gc.ok).2 (Nat.le_refl _), ?_⟩
      rw [List.drop_length] at hl
      unfold lcLoop at hl
      simp only [Option.some.injEq, Prod.mk.injEq] at hl
      obtain ⟨rfl, rfl⟩ := hl
      rw [List.append_nil] at htot
      subst htot
      -- the new list is frozen
      have na : k.a ≠ Dd := fun e => by rw [← e, ok1.da] at hD; cases hD
      have nb : k.b ≠ Dd := fun e => by rw [← e, ok1.db] at hD; cases hD
      have stf : Stp k F1 (addF Fc Dd) H1 Hc := ⟨fun a z => .inl (Gc.st.mono a z), Gc.st.keep, fun a z => z.elim (Gc.st.new a) fun e => .inr (e ▸ hD)⟩
      have okf : Ok k (addF Fc Dd) Hc sc := ⟨fun a z => z.elim (Gc.ok.fok a) fun e => (by rw [e, hDc]; exact fun w => nomatch w), Gc.ok.ab, fun z => z.elim Gc.ok.na na, fun z => z.elim Gc.ok.nb nb, Gc.ok.da, Gc.ok.db, Gc.ok.sz⟩
      exact q _ _ _ (st1.then stf G.ok okf) okf (.lst ⟨.inr rfl, hDc⟩ (rc.ext ⟨fun _ z => .inl z, fun _ _ _ z => z⟩))
  · cases h
theorem ev_lc {elt tg iter : Expr} {ifs : List Expr} {scope : Scope} {own : List (Str × Nat)} {pos : Pos} {fi : FI} {fg : FG} {ft : FT} {fe : FE} (hc : X.calm = true) (hN : X.N.Nodup) (hi : IV X k O tg iter fi) (ok : BlkOk X.N X.env.scope scope own)
    (hg : ∀ s H C cl fp, GV (X.blk s H scope (compEnvC scope cl C X.env) fp) k [] tg fg (own.map (·.2))) (ht : ∀ s H C cl fp, TVs (X.blk s H scope (compEnvC scope cl C X.env) fp) k [] ifs ft) (he : ∀ s H C cl fp, EV (X.blk s H scope (compEnvC scope cl C X.env) fp) k [] elt fe)
    (hs : ∀ x, foldedSetIterable iter X.env x = pure x) : EV X k O (.ListComp elt [⟨tg, iter, ifs, 0⟩] scope pos) (fLc O (own.map (·.2)) fi fg ft fe) := by
  obtain ⟨wi, pi, qi⟩ := hi
  exact ⟨_, pe_lc (g := tGd X.K k [] fg (own.map (·.2))) (tt := tTs X.K k [] ft) (te := tE X.K k [] fe) hc hN pi ok (fun s H C cl fp => (hg s H C cl fp).pg) (fun s H C cl fp => (ht s H C cl fp).pts) (fun s H C cl fp => (he s H C cl fp).pe) hs, lc_sem qi⟩
end
end Rf

namespace Rf
open PySem PySem.Spec PyProof.Rows L2

inductive Out where
  | nx (env : EnvD) (s : S)
  | rt (d : D) (s : S)
  | bk (env : EnvD) (s : S)
  | ct (env : EnvD) (s : S)
abbrev FS := EnvD → S → Option Out

def Meet (K : PySem.W.Frag) (k : Dk) (F0 : Fz) (H0 : Hp) (F : Fz) (H : Hp) (O' : List Nat) (D : Ends) : Out → Prop
  | .nx env' s' => ∀ F' H' σ', Good K k F0 H0 F' H' σ' O' env' s' → Ext F F' H H' → D.nx σ' H'
  | .rt d s' => ∀ F' H' v, Stp k F0 F' H0 H' → Ok k F' H' s' → Rep K k F' H' d v → D.rt v H'
  | .bk env' s' => ∀ F' H' σ', Good K k F0 H0 F' H' σ' O' env' s' → Ext F F' H H' → D.bk σ' H'
  | .ct env' s' => ∀ F' H' σ', Good K k F0 H0 F' H' σ' O' env' s' → Ext F F' H H' → D.ct σ' H'
def SV (X : Cx) (k : Dk) (O : List Nat) (st : Stmt) (O' : List Nat) (f : FS) : Prop :=
  ∃ t, PS X st t ∧ ∀ F0 H0 F H σ env s out D, Good X.K k F0 H0 F H σ O env s → f env s = some out → Meet X.K k F0 H0 F H O' D out → t D σ H
def SVs (X : Cx) (k : Dk) (O : List Nat) (sts : List Stmt) (O' : List Nat) (f : FS) : Prop :=
  ∃ t, PSs X sts t ∧ ∀ F0 H0 F H σ env s out D, Good X.K k F0 H0 F H σ O env s → f env s = some out → Meet X.K k F0 H0 F H O' D out → t D σ H
section
variable {X : Cx} {k : Dk} {O O' O1 : List Nat} {st : Stmt} {sts : List Stmt} {e : Expr} {f : FE} {pos : Pos}
theorem Meet.ext {K : PySem.W.Frag} {F0 F F1 : Fz} {H0 H H1 : Hp} {D : Ends} {out : Out} (ex : Ext F F1 H H1) (m : Meet K k F0 H0 F H O' D out) : Meet K k F0 H0 F1 H1 O' D out := by
  cases out with
  | nx env s => exact fun F' H' σ' G e => m F' H' σ' G (ex.trans e)
  | rt d s => exact m
  | bk env s => exact fun F' H' σ' G e => m F' H' σ' G (ex.trans e)
  | ct env s => exact fun F' H' σ' G e => m F' H' σ' G (ex.trans e)
def sNil : FS := fun env s => some (.nx env s)
theorem svs_nil : SVs X k O [] O sNil := ⟨_, pss_nil, fun F0 H0 F H σ env s out D G h m => by cases h; exact m F H σ G .refl⟩
def sSeq (f g : FS) : FS := fun env s => (f env s).bind fun o => match o with | .nx e1 s1 => g e1 s1 | o => some o
/-- breaks and continues must know the owned slots of the loop's head: O' there -/
theorem svs_cons {f g : FS} (h1 : SV X k O st O1 f) (h2 : SVs X k O1 sts O' g) (hb : ∀ env s e1 s1, f env s ≠ some (.bk e1 s1)) (hct : ∀ env s e1 s1, f env s ≠ some (.ct e1 s1)) : SVs X k O (st :: sts) O' (sSeq f g) := by
  obtain ⟨t1, p1, q1⟩ := h1
  obtain ⟨t2, p2, q2⟩ := h2
  refine ⟨_, pss_cons p1 p2, fun F0 H0 F H σ env s out D G h m => ?_⟩
  unfold sSeq at h
  cases e1 : f env s with
  | none => rw [e1] at h; cases h
  | some o1 =>
  rw [e1] at h
  simp only [Option.bind_some] at h
  refine q1 F0 H0 F H σ env s o1 _ G e1 ?_
  cases o1 with
  | nx en s1 => exact fun F1 H1 σ1 G1 ex => q2 F0 H0 F1 H1 σ1 en s1 out D G1 h (m.ext ex)
  | rt d s1 => cases h; exact m
  | bk en s1 => exact absurd e1 (hb env s en s1)
  | ct en s1 => exact absurd e1 (hct env s en s1)
/-- the same owned slots ahead and behind: breaks go through -/
theorem svs_cons' {f g : FS} (h1 : SV X k O st O f) (h2 : SVs X k O sts O g) : SVs X k O (st :: sts) O (sSeq f g) := by
  obtain ⟨t1, p1, q1⟩ := h1
  obtain ⟨t2, p2, q2⟩ := h2
  refine ⟨_, pss_cons p1 p2, fun F0 H0 F H σ env s out D G h m => ?_⟩
  unfold sSeq at h
  cases e1 : f env s with
  | none => rw [e1] at h; cases h
  | some o1 =>
  rw [e1] at h
  simp only [Option.bind_some] at h
  refine q1 F0 H0 F H σ env s o1 _ G e1 ?_
  cases o1 with
  | nx en s1 => exact fun F1 H1 σ1 G1 ex => q2 F0 H0 F1 H1 σ1 en s1 out D G1 h (m.ext ex)
  | rt d s1 => cases h; exact m
  | bk en s1 => cases h; exact m
  | ct en s1 => cases h; exact m
def sRet (f : FE) : FS := fun env s => (f env s).map fun p => .rt p.1 p.2
theorem sv_ret (he : EV X k O e f) : SV X k O (.Return (some e) pos) O' (sRet f) := by
  obtain ⟨t, p, q⟩ := he
  refine ⟨_, ps_ret p, fun F0 H0 F H σ env s out D G h m => ?_⟩
  unfold sRet at h
  cases e1 : f env s with
  | none => rw [e1] at h; cases h
  | some pp =>
  obtain ⟨d, s1⟩ := pp
  rw [e1] at h
  cases h
  refine q F0 H0 F H σ env s d s1 _ G e1 fun v F1 H1 st1 ok1 r1 => ?_
  exact m F1 H1 v (g_st G st1 ok1) ok1 r1
where g_st {F0 F F1 : Fz} {H0 H H1 : Hp} {σ : L2.St} {env : EnvD} {s s1 : S} {K : PySem.W.Frag} (G : Good K k F0 H0 F H σ O env s) (st1 : Stp k F F1 H H1) (ok1 : Ok k F1 H1 s1) : Stp k F0 F1 H0 H1 := (G.step st1 ok1).st
def sIf (c : FT) (f g : FS) : FS := fun env s => (c env s).bind fun p => if p.1 = true then f env p.2 else g env p.2
theorem sv_if {c : Expr} {a b : List Stmt} {gc : FT} {f g : FS} (hc : TV X k O c gc) (ha : SVs X k O a O' f) (hb : SVs X k O b O' g) : SV X k O (.If c a b pos) O' (sIf gc f g) := by
  obtain ⟨tc, pc, qc⟩ := hc
  obtain ⟨t1, p1, q1⟩ := ha
  obtain ⟨t2, p2, q2⟩ := hb
  refine ⟨_, ps_if pc p1 p2, fun F0 H0 F H σ env s out D G h m => ?_⟩
  unfold sIf at h
  cases e1 : gc env s with
  | none => rw [e1] at h; cases h
  | some pp =>
  obtain ⟨b, s1⟩ := pp
  rw [e1] at h
  simp only [Option.bind_some] at h
  refine qc F0 H0 F H σ env s b s1 _ G e1 fun F1 H1 st1 ok1 => ?_
  have G1 := G.step st1 ok1
  cases b with
  | true =>
    rw [if_pos rfl] at h ⊢
    exact q1 F0 H0 F1 H1 σ env s1 out D G1 h (m.ext (st1.ext G.ok))
  | false =>
    rw [if_neg (by decide)] at h ⊢
    exact q2 F0 H0 F1 H1 σ env s1 out D G1 h (m.ext (st1.ext G.ok))
def sPass : FS := fun env s => some (.nx env s)
theorem sv_pass : SV X k O (.Pass pos) O sPass := ⟨_, ps_pass, fun F0 H0 F H σ env s out D G h m => by cases h; exact m F H σ G .refl⟩
theorem sv_break : SV X k O (.Break pos) O (fun env s => some (.bk env s)) := ⟨_, ps_break, fun F0 H0 F H σ env s out D G h m => by cases h; exact m F H σ G .refl⟩
theorem sv_continue : SV X k O (.Continue pos) O (fun env s => some (.ct env s)) := ⟨_, ps_continue, fun F0 H0 F H σ env s out D G h m => by cases h; exact m F H σ G .refl⟩

/-! ### x = e -/
theorem Good.drop {K : PySem.W.Frag} {F0 F : Fz} {H0 H : Hp} {σ : L2.St} {env : EnvD} {s : S} {i : Nat} (g : Good K k F0 H0 F H σ O env s) : Good K k F0 H0 F H (σ.set i none) (O.filter (· ≠ i)) (env.set i none) s := by
  have sub : ∀ {j d}, (env.set i none)[j]? = some (some d) → i ≠ j ∧ env[j]? = some (some d) := fun {j d} h => by
    by_cases e : i = j
    · subst e
      by_cases hl : i < env.length
      · rw [List.getElem?_set_self hl] at h; cases h
      · rw [List.getElem?_eq_none (by rw [List.length_set]; omega)] at h; cases h
    · rw [List.getElem?_set_ne e] at h
      exact ⟨e, h⟩
  refine ⟨g.ok, g.st, g.ka, g.kb, by rw [List.length_set, List.length_set]; exact g.len, fun j d h1 h2 => ?_, fun j d h1 h2 => ?_, fun j j' d d' p o1 o2 h1 h2 h3 h4 => ?_⟩
  · obtain ⟨ne, h⟩ := sub h1
    rw [List.getElem?_set_ne ne]
    exact g.val j d h fun z => h2 (List.mem_filter.mpr ⟨z, by simpa using fun e => ne e.symm⟩)
  · obtain ⟨ne, h⟩ := sub h1
    rw [List.getElem?_set_ne ne]
    exact g.own j d h (List.mem_filter.mp h2).1
  · obtain ⟨ne, h⟩ := sub h1
    obtain ⟨ne', h'⟩ := sub h2
    rw [List.getElem?_set_ne ne] at h3
    rw [List.getElem?_set_ne ne'] at h4
    exact g.apart j j' d d' p (List.mem_filter.mp o1).1 (List.mem_filter.mp o2).1 h h' h3 h4
/-- a value is stored in a slot, owned before or not -/
theorem Good.put {K : PySem.W.Frag} {F0 F : Fz} {H0 H : Hp} {σ : L2.St} {env : EnvD} {s : S} {i : Nat} {d : D} {v : V} (g : Good K k F0 H0 F H σ O env s) (r : Rep K k F H d v) : Good K k F0 H0 F H (σ.set i (some v)) (O.filter (· ≠ i)) (env.set i (some d)) s := by
  have g1 := (g.drop (i := i)).store (i := i) (d := d) (v := v) (by simp) r
  rw [List.set_set, List.set_set] at g1
  exact g1
def sSet (i : Nat) (f : FE) : FS := fun env s => (f env s).map fun p => .nx (env.set i (some p.1)) p.2
theorem set_sem {te : TE} {i : Nat}
    (q : ∀ F0 H0 F H σ env s d s' (Q : VK), Good X.K k F0 H0 F H σ O env s → f env s = some (d, s') → (∀ v F' H', Stp k F F' H H' → Ok k F' H' s' → Rep X.K k F' H' d v → Q v H') → te σ H Q) :
    ∀ F0 H0 F H σ env s out D, Good X.K k F0 H0 F H σ O env s → sSet i f env s = some out → Meet X.K k F0 H0 F H (O.filter (· ≠ i)) D out → tAsg te (gName i) D σ H := by
  intro F0 H0 F H σ env s out D G h m
  unfold sSet at h
  cases e1 : f env s with
  | none => rw [e1] at h; cases h
  | some pp =>
  obtain ⟨d, s1⟩ := pp
  rw [e1] at h
  cases h
  exact q F0 H0 F H σ env s d s1 _ G e1 fun v F1 H1 st1 ok1 r1 => m F1 H1 _ ((G.step st1 ok1).put r1) (st1.ext G.ok)
theorem sv_set {i : Nat} {x : Str} {pos' : Pos} (hN : X.N.Nodup) (hi : X.N[i]? = some x) (hx : Loc X.env.scope x) (he : EV X k O e f) (hs : swapsWith e (some (.Name x pos')) pos.line X.env = pure false) (hf : X.fn x = true ∨ X.env.scope.names.lookup x = some .local) :
    SV X k O (.Assign [.Name x pos'] e pos) (O.filter (· ≠ i)) (sSet i f) := by
  obtain ⟨t, p, q⟩ := he
  exact ⟨_, ps_set hN hi hx p hs hf, set_sem q⟩
theorem sv_setLc {i : Nat} {y : Str} {py spos : Pos} {elt tg iter : Expr} {ifs : List Expr} {scope : Scope} {own : List (Str × Nat)} {pos : Pos} {fi : FI} {fg : FG} {ft : FT} {fe : FE} (hc : X.calm = true) (hN : X.N.Nodup) (hy : X.N[i]? = some y) (hyl : X.env.scope.names.lookup y = some .local)
    (hsw : swapsWith (.ListComp elt [⟨tg, iter, ifs, 0⟩] scope pos) (some (.Name y py)) spos.line X.env = pure true) (hi : IV X k O tg iter fi) (ok : BlkOk X.N X.env.scope scope own)
    (hg : ∀ s H C cl fp, GV (X.blk s H scope (compEnvC scope cl C X.env) fp) k [] tg fg (own.map (·.2))) (ht : ∀ s H C cl fp, TVs (X.blk s H scope (compEnvC scope cl C X.env) fp) k [] ifs ft) (he : ∀ s H C cl fp, EV (X.blk s H scope (compEnvC scope cl C X.env) fp) k [] elt fe)
    (hs : ∀ x, foldedSetIterable iter X.env x = pure x) : SV X k O (.Assign [.Name y py] (.ListComp elt [⟨tg, iter, ifs, 0⟩] scope pos) spos) (O.filter (· ≠ i)) (sSet i (fLc O (own.map (·.2)) fi fg ft fe)) := by
  obtain ⟨wi, pi, qi⟩ := hi
  exact ⟨_, ps_setLc (g := tGd X.K k [] fg (own.map (·.2))) (tt := tTs X.K k [] ft) (te := tE X.K k [] fe) hc hN hy hyl hsw pi ok (fun s H C cl fp => (hg s H C cl fp).pg) (fun s H C cl fp => (ht s H C cl fp).pts) (fun s H C cl fp => (he s H C cl fp).pe) hs, set_sem (lc_sem qi)⟩
/-- a, b = e -/
def sUnp (f : FE) (g : FG) : FS := fun env s => (f env s).bind fun p => match p.1 with | .py q => (g env q).map fun en => .nx en p.2 | _ => none
theorem sv_unp {tg : Expr} {g : FG} {vs : List Nat} (he : EV X k O e f) (hg : GV X k O tg g vs) (hs : swapsWithSole [tg] e pos.line X.env = pure false) (hw : swappedStores [tg] e X.env = pure none) (h1 : (assignEach [tg] X.env).map (·.2) = [assign tg X.env]) : SV X k O (.Assign [tg] e pos) O (sUnp f g) := by
  obtain ⟨t, p, q⟩ := he
  obtain ⟨tt, pg, qg⟩ := hg
  refine ⟨_, ps_asg p pg hs hw h1, fun F0 H0 F H σ env s out D G h m => ?_⟩
  unfold sUnp at h
  cases e1 : f env s with
  | none => rw [e1] at h; cases h
  | some pp =>
  obtain ⟨d, s1⟩ := pp
  rw [e1] at h
  simp only [Option.bind_some] at h
  cases d with
  | py z =>
    simp only at h
    cases e2 : g env z with
    | none => rw [e2] at h; cases h
    | some en =>
    rw [e2] at h
    cases h
    exact q F0 H0 F H σ env s _ s1 _ G e1 fun v F1 H1 st1 ok1 r1 => qg F0 H0 F1 H1 σ env s1 z v en _ (G.step st1 ok1) r1 e2 fun σ' G' _ => m F1 H1 σ' G' (st1.ext G.ok)
  | _ => cases h

/-! ### owned lists -/
theorem Good.freeze {K : PySem.W.Frag} {F0 F : Fz} {H0 H : Hp} {σ : L2.St} {env : EnvD} {s : S} (i : Nat) (g : Good K k F0 H0 F H σ O env s) : ∃ F', Good K k F0 H0 F' H σ (O.filter (· ≠ i)) env s ∧ Ext F F' H H := by
  by_cases hi : i ∈ O
  · cases e : env[i]? with
    | none =>
      refine ⟨F, ⟨g.ok, g.st, g.ka, g.kb, g.len, fun j d h1 h2 => g.val j d h1 fun z => ?_, fun j d h1 h2 => g.own j d h1 (List.mem_filter.mp h2).1, fun j j' d d' p o1 o2 => g.apart j j' d d' p (List.mem_filter.mp o1).1 (List.mem_filter.mp o2).1⟩, .refl⟩
      by_cases q : j = i
      · rw [q, e] at h1; cases h1
      · exact h2 (List.mem_filter.mpr ⟨z, by simpa using q⟩)
    | some od =>
      cases od with
      | none =>
        refine ⟨F, ⟨g.ok, g.st, g.ka, g.kb, g.len, fun j d h1 h2 => g.val j d h1 fun z => ?_, fun j d h1 h2 => g.own j d h1 (List.mem_filter.mp h2).1, fun j j' d d' p o1 o2 => g.apart j j' d d' p (List.mem_filter.mp o1).1 (List.mem_filter.mp o2).1⟩, .refl⟩
        by_cases q : j = i
        · rw [q, e] at h1; cases h1
        · exact h2 (List.mem_filter.mpr ⟨z, by simpa using q⟩)
      | some d0 =>
        obtain ⟨p, hp, nf, n0, ow⟩ := g.own i d0 e hi
        have nd := Own.not_deck (d := d0) g.ok g.st g.ka g.kb n0
        have ex : Ext F (addF F p) H H := ⟨fun _ z => .inl z, fun _ _ _ z => z⟩
        have ok' : Ok k (addF F p) H s := ⟨fun a z => z.elim (g.ok.fok a) fun q => q ▸ ow.some_at, g.ok.ab, fun z => z.elim g.ok.na fun q => nd.1 q.symm, fun z => z.elim g.ok.nb fun q => nd.2 q.symm, g.ok.da, g.ok.db, g.ok.sz⟩
        refine ⟨addF F p, ⟨ok', ⟨fun a z => .inl (g.st.mono a z), g.st.keep, fun a z => z.elim (g.st.new a) fun q => .inr (q ▸ n0)⟩, g.ka, g.kb, g.len, fun j d h1 h2 => ?_, fun j d h1 h2 => ?_, fun j j' d d' p o1 o2 => g.apart j j' d d' p (List.mem_filter.mp o1).1 (List.mem_filter.mp o2).1⟩, ex⟩
        · by_cases q : j = i
          · subst q
            rw [e] at h1
            cases h1
            refine ⟨.ref p, hp, ?_⟩
            cases d0 with
            | py z =>
              cases z with
              | list ds =>
                obtain ⟨xs, hx, rr⟩ := ow
                exact .lst ⟨.inr rfl, hx⟩ (rr.ext ex)
              | _ => exact ow.elim
            | _ => exact ow.elim
          · obtain ⟨v, e1, r⟩ := g.val j d h1 fun z => h2 (List.mem_filter.mpr ⟨z, by simpa using q⟩)
            exact ⟨v, e1, r.ext ex⟩
        · obtain ⟨hj, hji⟩ := List.mem_filter.mp h2
          have hji : j ≠ i := by simpa using hji
          obtain ⟨p', e1, nf', n0', ow'⟩ := g.own j d h1 hj
          have pp : p' ≠ p := fun q => hji (g.apart j i d d0 p hj hi h1 e (q ▸ e1) hp)
          refine ⟨p', e1, fun z => z.elim nf' pp, n0', ?_⟩
          cases d with
          | py z =>
            cases z with
            | list ds =>
              obtain ⟨xs, hx, rr⟩ := ow'
              exact ⟨xs, hx, rr.ext ex⟩
            | _ => exact ow'.elim
          | _ => exact ow'.elim
  · refine ⟨F, ⟨g.ok, g.st, g.ka, g.kb, g.len, fun j d h1 h2 => g.val j d h1 fun z => h2 (List.mem_filter.mpr ⟨z, ?_⟩), fun j d h1 h2 => g.own j d h1 (List.mem_filter.mp h2).1, fun j j' d d' p o1 o2 => g.apart j j' d d' p (List.mem_filter.mp o1).1 (List.mem_filter.mp o2).1⟩, .refl⟩
    simpa using fun (q : j = i) => hi (by rw [← q]; exact z)
theorem sv_frz {f : FS} (i : Nat) (h : SV X k (O.filter (· ≠ i)) st O' f) : SV X k O st O' f := by
  obtain ⟨t, p, q⟩ := h
  refine ⟨t, p, fun F0 H0 F H σ env s out D G h m => ?_⟩
  obtain ⟨F', G', ex⟩ := G.freeze i
  exact q F0 H0 F' H σ env s out D G' h (m.ext ex)
theorem svs_frz {f : FS} (i : Nat) (h : SVs X k (O.filter (· ≠ i)) sts O' f) : SVs X k O sts O' f := by
  obtain ⟨t, p, q⟩ := h
  refine ⟨t, p, fun F0 H0 F H σ env s out D G h m => ?_⟩
  obtain ⟨F', G', ex⟩ := G.freeze i
  exact q F0 H0 F' H σ env s out D G' h (m.ext ex)
/-- x = [] -/
def sNew (i : Nat) : FS := fun env s => some (.nx (env.set i (some (.py (.list [])))) s)
theorem sv_new {i : Nat} {x : Str} {pos' p2 : Pos} (hN : X.N.Nodup) (hi : X.N[i]? = some x) (hx : Loc X.env.scope x) (hf : X.fn x = true ∨ X.env.scope.names.lookup x = some .local) :
    SV X k O (.Assign [.Name x pos'] (.List [] p2) pos) (i :: O.filter (· ≠ i)) (sNew i) := by
  refine ⟨_, ps_set hN hi hx (pe_lst pa_nil) rfl hf, fun F0 H0 F H σ env s out D G h m => ?_⟩
  cases h
  refine ⟨Nat.zero_le _, fun p hp => ?_⟩
  have nF : ¬F p := fun z => G.ok.fok p z hp
  have n0 : H0 p = none := by
    cases q : H0 p with
    | none => rfl
    | some o =>
      by_cases h1 : p = k.a
      · rw [h1, G.ok.da] at hp; cases hp
      · by_cases h2 : p = k.b
        · rw [h2, G.ok.db] at hp; cases hp
        · rw [G.st.keep p o h1 h2 q] at hp; cases hp
  have G1 := G.drop (i := i)
  have ka : k.a ≠ p := fun e => by rw [← e, G.ok.da] at hp; cases hp
  have kb : k.b ≠ p := fun e => by rw [← e, G.ok.db] at hp; cases hp
  have ne : ∀ a, F a → a ≠ p := fun a f e => nF (e ▸ f)
  have ex : Ext F F H (upd H p (.lst [])) := ⟨fun _ h => h, fun a u f h => by rw [upd_ne (ne a f)]; exact h⟩
  have li : ∀ {j d}, (env.set i (some (.py (.list []))))[j]? = some (some d) → j ≠ i → env[j]? = some (some d) ∧ (env.set i none)[j]? = some (some d) ∧ ∀ w, (σ.set i w)[j]? = σ[j]? := fun {j d} h n => by
    rw [List.getElem?_set_ne n.symm] at h
    exact ⟨h, by rw [List.getElem?_set_ne n.symm]; exact h, fun w => List.getElem?_set_ne n.symm⟩
  have hH : ∀ {q : Addr} {d : Rf.D}, Own X.K F H d q → q ≠ p := fun {q d} o z => o.some_at (z ▸ hp)
  refine m F (upd H p (.lst [])) _ ⟨⟨fun a f => by rw [upd_ne (ne a f)]; exact G.ok.fok a f, G.ok.ab, G.ok.na, G.ok.nb, by rw [upd_ne ka]; exact G.ok.da, by rw [upd_ne kb]; exact G.ok.db, G.ok.sz⟩,
    ⟨G.st.mono, fun a u h1 h2 h => by rw [upd_ne (ne_of_none h n0)]; exact G.st.keep a u h1 h2 h, G.st.new⟩, G.ka, G.kb, by rw [List.length_set, List.length_set]; exact G.len, fun j d h1 h2 => ?_, fun j d h1 h2 => ?_, fun j j' d d' q o1 o2 h1 h2 h3 h4 => ?_⟩ ex
  · have hj : j ≠ i := fun q => h2 (q ▸ List.mem_cons_self)
    obtain ⟨e1, e2, e3⟩ := li h1 hj
    obtain ⟨v, e4, r⟩ := G.val j d e1 fun z => h2 (List.mem_cons_of_mem _ (List.mem_filter.mpr ⟨z, by simpa using hj⟩))
    exact ⟨v, by rw [e3]; exact e4, r.ext ex⟩
  · by_cases hj : j = i
    · subst hj
      have hl : j < env.length := by
        have := (List.getElem?_eq_some_iff.mp h1).1
        rw [List.length_set] at this
        exact this
      rw [List.getElem?_set_self hl] at h1
      cases h1
      exact ⟨p, List.getElem?_set_self (by rw [← G.len]; exact hl), nF, n0, [], upd_same, .nil⟩
    · obtain ⟨e1, e2, e3⟩ := li h1 hj
      have hjO : j ∈ O := by
        rcases List.mem_cons.mp h2 with z | z
        · exact absurd z hj
        · exact (List.mem_filter.mp z).1
      obtain ⟨p', e4, nf', n0', ow⟩ := G.own j d e1 hjO
      refine ⟨p', by rw [e3]; exact e4, nf', n0', ?_⟩
      have pp := hH ow
      cases d with
      | py z =>
        cases z with
        | list ds =>
          obtain ⟨xs, hx, rr⟩ := ow
          exact ⟨xs, by rw [upd_ne pp]; exact hx, rr.ext ex⟩
        | _ => exact ow.elim
      | _ => exact ow.elim
  · have one : ∀ {j d}, j ∈ i :: O.filter (· ≠ i) → j ≠ i → (env.set i (some (.py (.list []))))[j]? = some (some d) → (σ.set i (some (.ref p)))[j]? = some (some (.ref q)) → q ≠ p ∧ j ∈ O ∧ env[j]? = some (some d) ∧ σ[j]? = some (some (.ref q)) := fun {j d} o hj h h' => by
      obtain ⟨e1, e2, e3⟩ := li h hj
      rw [e3] at h'
      have hjO : j ∈ O := by
        rcases List.mem_cons.mp o with z | z
        · exact absurd z hj
        · exact (List.mem_filter.mp z).1
      obtain ⟨p', e4, _, _, ow⟩ := G.own j d e1 hjO
      rw [h'] at e4
      cases e4
      exact ⟨hH ow, hjO, e1, h'⟩
    have at_i : ∀ {q}, (σ.set i (some (V.ref p)))[i]? = some (some (.ref q)) → q = p := fun {q} h => by
      by_cases hl : i < σ.length
      · rw [List.getElem?_set_self hl] at h; cases h; rfl
      · rw [List.getElem?_eq_none (by rw [List.length_set]; omega)] at h; cases h
    by_cases hj : j = i
    · by_cases hj' : j' = i
      · rw [hj, hj']
      · rw [hj] at h3
        exact absurd (at_i h3) (one o2 hj' h2 h4).1
    · by_cases hj' : j' = i
      · rw [hj'] at h4
        exact absurd (at_i h4) (one o1 hj h1 h3).1
      · obtain ⟨_, a1, a2, a3⟩ := one o1 hj h1 h3
        obtain ⟨_, b1, b2, b3⟩ := one o2 hj' h2 h4
        exact G.apart j j' d d' q a1 b1 a2 b2 a3 b3
/-- x.append(e) -/
def sApp (i : Nat) (f : FE) : FS := fun env s => (f env s).bind fun p => match env[i]?, p.1 with
  | some (some (.py (.list ds))), .py q => if ds.length < big then some (.nx (env.set i (some (.py (.list (ds ++ [q]))))) p.2) else none
  | _, _ => none
theorem sv_app {i : Nat} {x : Str} {vp apos cpos : Pos} (hi : X.N[i]? = some x) (hv : Vis X.env.scope x) (ho : i ∈ O) (hd : (x == ("__debug__" : Str)) = false) (hcd : (x == ("__classdict__" : Str)) = false) (he : EV X k O e f)
    (hst : starEach [e] X.env = (false, eval e X.env) :: starEach [] X.env) (hline : (apos.endLine == cpos.line) = true) :
    SV X k O (.Expr (.Call (.Attribute (.Name x vp) "append" apos) [e] [] cpos) pos) O (sApp i f) := by
  obtain ⟨t, p, q⟩ := he
  have hfew : ((backTo cpos (starEach [e] X.env)).all (fun x => !x.1) && (backToKw cpos (keywordEach [] X.env)).all (fun x => x.1.isSome)
      && decide ([e].length + ([] : List Keyword).length + (if ([] : List Keyword).isEmpty then 0 else 1) < 30)) = true := by rw [hst]; rfl
  refine ⟨_, ps_expr (pe_bm PySem.F.plainAttrs_list PySem.F.slot_list_append PySem.F.type_list_append mt_append (pe_var hi hv hd hcd) (pa_cons p pa_nil hst) rfl hfew hline hst rfl) rfl, fun F0 H0 F H σ env s out D G h m => ?_⟩
  unfold sApp at h
  cases e1 : f env s with
  | none => rw [e1] at h; cases h
  | some pp =>
  obtain ⟨d, s1⟩ := pp
  rw [e1] at h
  simp only [Option.bind_some] at h
  split at h
  · rename_i ds z hds
    split at h
    · rename_i hlen
      cases h
      obtain ⟨a, ha, nf, n0, xs, hxs, rr⟩ := G.own i _ hds ho
      have nd := Own.not_deck (d := .py (.list ds)) G.ok G.st G.ka G.kb n0
      refine ⟨.ref a, ha, .inl ⟨rfl, xs, SqL.of hxs⟩, q F0 H0 F H σ env s _ _ _ G e1 fun v F1 H1 st1 ok1 r1 => ?_⟩
      have G1 := G.step st1 ok1
      have hx1 := st1.keep a _ nd.1 nd.2 hxs
      obtain ⟨a', ha', nf1, _, xs1, hxs1, rr1⟩ := G1.own i _ hds ho
      rw [ha] at ha'
      cases ha'
      rw [hx1] at hxs1
      cases hxs1
      refine ⟨a, xs, v, rfl, rfl, hx1, by rw [big_eq, ← rr1.length]; exact hlen, ?_⟩
      have ne : ∀ b, F1 b → b ≠ a := fun b fb e => nf1 (e ▸ fb)
      have ex : Ext F1 F1 H1 (upd H1 a (.lst (xs ++ [v]))) := ⟨fun _ w => w, fun b u fb hb => by rw [upd_ne (ne b fb)]; exact hb⟩
      have hl : i < env.length := (List.getElem?_eq_some_iff.mp hds).1
      have hself : σ.set i (some (.ref a)) = σ := by
        apply List.ext_getElem?
        intro j
        by_cases e : i = j
        · subst e
          rw [List.getElem?_set_self (by rw [← G.len]; exact hl), ha]
        · rw [List.getElem?_set_ne e]
      refine m F1 _ σ ⟨⟨fun b fb => by rw [upd_ne (ne b fb)]; exact ok1.fok b fb, ok1.ab, ok1.na, ok1.nb, by rw [upd_ne nd.1.symm]; exact ok1.da, by rw [upd_ne nd.2.symm]; exact ok1.db, ok1.sz⟩,
        ⟨G1.st.mono, fun b u h1 h2 hb => by rw [upd_ne (ne_of_none hb n0)]; exact G1.st.keep b u h1 h2 hb, G1.st.new⟩, G.ka, G.kb, by rw [List.length_set]; exact G.len, fun j d h1 h2 => ?_, fun j d h1 h2 => ?_, fun j j' d d' b o1 o2 h1 h2 h3 h4 => ?_⟩ ((st1.ext G.ok).trans ex)
      · have hj : i ≠ j := fun w => h2 (w ▸ ho)
        rw [List.getElem?_set_ne hj] at h1
        obtain ⟨w, e4, r⟩ := G1.val j d h1 h2
        exact ⟨w, e4, r.ext ex⟩
      · by_cases hj : i = j
        · subst hj
          rw [List.getElem?_set_self hl] at h1
          cases h1
          exact ⟨a, ha, nf1, n0, xs ++ [v], upd_same, (rr1.append (.cons r1 .nil)).ext ex⟩
        · rw [List.getElem?_set_ne hj] at h1
          obtain ⟨b, e4, nf', n0', ow⟩ := G1.own j d h1 h2
          have pp : b ≠ a := fun w => hj (G1.apart i j _ d a ho h2 hds h1 ha (w ▸ e4))
          refine ⟨b, e4, nf', n0', ?_⟩
          cases d with
          | py z =>
            cases z with
            | list ds =>
              obtain ⟨ys, hy, ry⟩ := ow
              exact ⟨ys, by rw [upd_ne pp]; exact hy, ry.ext ex⟩
            | _ => exact ow.elim
          | _ => exact ow.elim
      · have fix : ∀ {j d}, (env.set i (some (.py (.list (ds ++ [z])))))[j]? = some (some d) → ∃ d0, env[j]? = some (some d0) := fun {j d} hh => by
          by_cases hj : i = j
          · subst hj; exact ⟨_, hds⟩
          · rw [List.getElem?_set_ne hj] at hh; exact ⟨_, hh⟩
        obtain ⟨x1, y1⟩ := fix h1
        obtain ⟨x2, y2⟩ := fix h2
        exact G.apart j j' x1 x2 b o1 o2 y1 y2 h3 h4
    · cases h
  · cases h
end
end Rf

namespace Rf
open PySem PySem.Spec PyProof.Rows L2
section
variable {X : Cx} {k : Dk} {O O' O1 : List Nat} {st : Stmt} {sts : List Stmt} {e : Expr} {f : FE} {pos : Pos}
def forLoop (fg : FG) (fb : FS) : List PyData → EnvD → S → Option Out
  | [], env, s => some (.nx env s)
  | p :: ps, env, s => (fg env p).bind fun e1 => (fb e1 s).bind fun o => match o with
    | .nx e2 s2 => forLoop fg fb ps e2 s2
    | .ct e2 s2 => forLoop fg fb ps e2 s2
    | .bk e2 s2 => some (.nx e2 s2)
    | .rt d s2 => some (.rt d s2)
def sFor (fi : FI) (fg : FG) (fb : FS) : FS := fun env s => (fi env s).bind fun p => forLoop fg fb p.1 env p.2
theorem sv_for {tg iter : Expr} {body : List Stmt} {fi : FI} {fg : FG} {fb : FS} {vs : List Nat} (hp : PassesOwn (model X.prog X.w) X.A X.env X.xe) (hc : X.calm = true) (hi : IV X k O tg iter fi) (hg : GV X k O tg fg vs) (hb : SVs X k O body O fb)
    (hs : ∀ x, foldedSetIterable iter X.env x = pure x) : SV X k O (.For tg iter body [] pos) O (sFor fi fg fb) := by
  obtain ⟨wi, pi, qi⟩ := hi
  obtain ⟨tg', pg, qg⟩ := hg
  obtain ⟨tb, pb, qb⟩ := hb
  refine ⟨_, ps_for hp hc pi pg pb hs, fun F0 H0 F H σ env s out D G h m => ?_⟩
  unfold sFor at h
  cases e1 : fi env s with
  | none => rw [e1] at h; cases h
  | some pp =>
  obtain ⟨ds, s1⟩ := pp
  rw [e1] at h
  simp only [Option.bind_some] at h
  refine qi F0 H0 F H σ env s ds s1 _ G e1 fun J F1 H1 st1 ok1 it => ?_
  have m := m.ext (st1.ext G.ok)
  refine ⟨fun i n σc Hc => n = ds.length - i ∧ i ≤ ds.length ∧ ∃ Fc ec sc, Good X.K k F0 H0 Fc Hc σc O ec sc ∧ Ext F1 Fc H1 Hc ∧ forLoop fg fb (ds.drop i) ec sc = some out,
    ⟨ds.length, by omega, Nat.zero_le _, F1, env, s1, G.step st1 ok1, .refl, h⟩, ?_⟩
  rintro i n σc Hc ⟨rfl, hi, Fc, ec, sc, Gc, ex, hl⟩
  by_cases hlt : i < ds.length
  · obtain ⟨go, yl⟩ := (it Fc Hc sc i ex Gc.ok).1 ds[i] (List.getElem?_eq_getElem hlt)
    rw [List.drop_eq_getElem_cons hlt] at hl
    unfold forLoop at hl
    refine .inr ⟨go, fun σn Hn => i + 1 ≤ ds.length ∧ ∃ Fc ec sc, Good X.K k F0 H0 Fc Hn σn O ec sc ∧ Ext F1 Fc H1 Hn ∧ forLoop fg fb (ds.drop (i + 1)) ec sc = some out, fun σ' H' hn => ⟨ds.length - (i + 1), by omega, rfl, hn.1, hn.2⟩, fun x H' hy => ?_⟩
    obtain ⟨Fy, sty, oky, ry⟩ := yl x H' hy
    have Gy := Gc.step sty oky
    have exy := ex.trans (sty.ext Gc.ok)
    cases e3 : fg ec ds[i] with
    | none => rw [e3] at hl; cases hl
    | some en =>
    rw [e3] at hl
    simp only [Option.bind_some] at hl
    refine qg F0 H0 Fy H' σc ec sc ds[i] x en _ Gy ry e3 fun σ2 G2 _ => ?_
    cases e4 : fb en sc with
    | none => rw [e4] at hl; cases hl
    | some o =>
    rw [e4] at hl
    simp only [Option.bind_some] at hl
    refine qb F0 H0 Fy H' σ2 en sc o _ G2 e4 ?_
    cases o with
    | nx e2 s2 => exact fun F5 H5 σ5 G5 ex5 => ⟨hlt, F5, e2, s2, G5, exy.trans ex5, hl⟩
    | ct e2 s2 => exact fun F5 H5 σ5 G5 ex5 => ⟨hlt, F5, e2, s2, G5, exy.trans ex5, hl⟩
    | bk e2 s2 =>
      cases hl
      exact fun F5 H5 σ5 G5 ex5 => m F5 H5 σ5 G5 (exy.trans ex5)
    | rt d s2 =>
      cases hl
      exact m
  · have ei : i = ds.length := by omega
    subst ei
    rw [List.drop_length] at hl
    unfold forLoop at hl
    cases hl
    exact .inl ⟨(it Fc Hc sc _ ex Gc.ok).2 (Nat.le_refl _), m Fc Hc σc Gc ex⟩
end

/-! ### a def -/
def envOf (n : Nat) (ds : List D) : EnvD := ds.map some ++ List.replicate (n - ds.length) none
def fnDen (n : Nat) (fb : FS) : FN := fun ds s => match fb (envOf n ds) s with
  | some (.rt d s') => some (d, s')
  | some (.nx _ s') => some (.py .none, s')
  | _ => none
section
variable {P : Program} {w : World} {K : PySem.W.Frag} {mg : Str → Option Value} {base : Heap} {k : Dk}
theorem good_start {F : Fz} {H : Hp} {s : S} {ds : List D} {vs : List V} {N : List Str} (ok : Ok k F H s) (r : Reps K k F H ds vs) : Good K k F H F H (L2.start N vs) [] (envOf N.length ds) s := by
  have hl : ds.length = vs.length := Paired.length r
  refine ⟨ok, .refl, by rw [ok.da]; exact (fun z => nomatch z), by rw [ok.db]; exact (fun z => nomatch z), ?_, fun i d h1 _ => ?_, fun i d _ h2 => absurd h2 (by simp), fun i j d d' p h2 => absurd h2 (by simp)⟩
  · unfold envOf L2.start
    simp [hl]
  · unfold envOf at h1
    unfold L2.start
    by_cases hi : i < ds.length
    · rw [List.getElem?_append_left (by simpa using hi), List.getElem?_map] at h1
      rw [List.getElem?_append_left (by simpa [← hl] using hi), List.getElem?_map]
      cases e : ds[i]? with
      | none => rw [e] at h1; cases h1
      | some d' =>
        rw [e] at h1
        simp only [Option.map_some, Option.some.injEq] at h1
        subst h1
        obtain ⟨v, e1, e2⟩ := paired_get r e
        exact ⟨v, by rw [e1]; rfl, e2⟩
    · rw [List.getElem?_append_right (by simpa using hi)] at h1
      rw [List.getElem?_replicate] at h1
      split at h1
      · cases h1
      · cases h1
where paired_get {F : Fz} {H : Hp} : ∀ {ds : List D} {vs : List V} {i : Nat} {d : D}, Reps K k F H ds vs → ds[i]? = some d → ∃ v, vs[i]? = some v ∧ Rep K k F H d v
  | _, _, _, _, .nil, e => by simp at e
  | _, _, 0, _, .cons hr _, he => ⟨_, rfl, by cases he; exact hr⟩
  | _, _, i + 1, d, .cons _ t, e => by
    obtain ⟨v, h1, h2⟩ := paired_get (i := i) (d := d) t (by simpa using e)
    exact ⟨v, by simpa using h1, h2⟩
theorem fn_data {x qual : Str} {st : Stmt} {f : Addr} {fd : FuncData} {N ps : List Str} {lv : Nat} {O' : List Nat} {fb : FS} (Fn : Fun K x qual st f fd) (Sc : FnScope N ps (defScope st))
    (hbody : ∀ (cdv : Value) (A : Around) (outer : List Env) (s : Shared) (H : Hp) (E : XK), Room lv (A.deeper (envOfC qual (defScope st) s.heap.objs.size f cdv)) → SVs (cxOf CX0 P w K mg base N qual (defScope st) f cdv A outer s H E).nox k [] (defBody st) O' fb) :
    FnOk P w K mg base CX0 (lv + 1) f fd ps (spOf K k ps.length (fnDen N.length fb)) := by
  refine Fn.ok Sc (fun vs H Q E h => h.1) (fun cdv A outer s H vs Q E hr h => ?_)
  obtain ⟨hl, F, ds, sd, d, s', ok, r, hg, q⟩ := h
  obtain ⟨t, p, qt⟩ := hbody cdv A outer s H E hr
  refine ⟨t, p, ?_⟩
  have G : Good K k F H F H (L2.start N vs) [] (envOf N.length ds) sd := good_start ok r
  unfold fnDen at hg
  cases e : fb (envOf N.length ds) sd with
  | none => rw [e] at hg; cases hg
  | some o =>
  rw [e] at hg
  refine qt F H F H _ _ sd o _ G e ?_
  cases o with
  | nx en s1 =>
    cases hg
    exact fun F' H' σ' G' ex => q _ F' H' G'.st G'.ok Rp.non
  | rt d1 s1 =>
    cases hg
    exact fun F' H' v st1 ok1 r1 => q v F' H' st1 ok1 r1
  | bk en s1 => cases hg
  | ct en s1 => cases hg
end
end Rf

namespace Rf
open PySem PySem.Spec PyProof.Rows L2
section
variable {X : Cx} {k : Dk} {O : List Nat}
theorem reps1 {K : PySem.W.Frag} {F : Fz} {H : Hp} {d : D} {xs : List V} (r : Reps K k F H [d] xs) : ∃ v, xs = [v] ∧ Rep K k F H d v := by
  cases r with
  | cons a b => cases b; exact ⟨_, rfl, a⟩
theorem reps2 {K : PySem.W.Frag} {F : Fz} {H : Hp} {d e : D} {xs : List V} (r : Reps K k F H [d, e] xs) : ∃ v u, xs = [v, u] ∧ Rep K k F H d v ∧ Rep K k F H e u := by
  cases r with
  | cons a b =>
    obtain ⟨u, rfl, q⟩ := reps1 b
    exact ⟨_, _, rfl, a, q⟩
/-! len -/
def lenG : List D → Option D
  | [.py (.list ds)] => some (.py (.int ds.length))
  | [.py (.tuple ds)] => some (.py (.int ds.length))
  | _ => none
theorem cd_len : CallD X k (fun xs H Q => ∃ p ys, xs = [.ref p] ∧ (SqL X.K H p ys ∨ SqT X.K H p ys) ∧ Q (.int ys.length) H) lenG := by
  intro F H s xs ds d Q ok r h q
  unfold lenG at h
  split at h
  · cases h
    obtain ⟨v, rfl, rv⟩ := reps1 r
    cases rv with
    | lst ha rr => exact ⟨_, _, rfl, .inl ha.sq, by rw [← rr.length]; exact q _ F H .refl ok (.int _)⟩
  · cases h
    obtain ⟨v, rfl, rv⟩ := reps1 r
    cases rv with
    | tup ha rr => exact ⟨_, _, rfl, .inr ha.sq, by rw [← rr.length]; exact q _ F H .refl ok (.int _)⟩
  · cases h
/-! abs, int -/
def absG : List D → Option D
  | [.py (.int i)] => some (.py (.int (if i < 0 then -i else i)))
  | _ => none
theorem cd_abs : CallD X k (fun xs H Q => ∃ i, xs = [.int i] ∧ Q (.int (if i < 0 then -i else i)) H) absG := by
  intro F H s xs ds d Q ok r h q
  unfold absG at h
  split at h
  · cases h
    obtain ⟨v, rfl, rv⟩ := reps1 r
    cases rv
    exact ⟨_, rfl, q _ F H .refl ok (.int _)⟩
  · cases h
def intG : List D → Option D
  | [.py (.int i)] => some (.py (.int i))
  | [.py (.bool b)] => some (.py (.int (if b then 1 else 0)))
  | _ => none
theorem cd_int : CallD X k (fun xs H Q => (∃ i, xs = [.int i] ∧ Q (.int i) H) ∨ ∃ k, xs = [.bl k] ∧ Q (.int (if k then 1 else 0)) H) intG := by
  intro F H s xs ds d Q ok r h q
  unfold intG at h
  split at h
  · cases h
    obtain ⟨v, rfl, rv⟩ := reps1 r
    cases rv
    exact .inl ⟨_, rfl, q _ F H .refl ok (.int _)⟩
  · cases h
    obtain ⟨v, rfl, rv⟩ := reps1 r
    cases rv
    exact .inr ⟨_, rfl, q _ F H .refl ok (.int _)⟩
  · cases h
/-! tuple(x), list(x) -/
def tupleG : List D → Option D
  | [.py (.list ds)] => some (.py (.tuple ds))
  | [.py (.tuple ds)] => some (.py (.tuple ds))
  | _ => none
theorem cd_tuple : CallD X k (fun xs H Q => ∃ p ys, xs = [.ref p] ∧ ((SqL X.K H p ys ∧ ∀ l, H l = none → Q (.ref l) (upd H l (.tup ys))) ∨ (SqT X.K H p ys ∧ Q (.ref p) H))) tupleG := by
  intro F H s xs ds d Q ok r h q
  unfold tupleG at h
  split at h
  · cases h
    obtain ⟨v, rfl, rv⟩ := reps1 r
    cases rv with
    | lst ha rr => exact ⟨_, _, rfl, .inl ⟨ha.sq, fun l hl => new_tup (X := X) ok hl rr q⟩⟩
  · cases h
    obtain ⟨v, rfl, rv⟩ := reps1 r
    cases rv with
    | tup ha rr => exact ⟨_, _, rfl, .inr ⟨ha.sq, q _ F H .refl ok (.tup ha rr)⟩⟩
  · cases h
def listG : List D → Option D
  | [.py (.list ds)] => some (.py (.list ds))
  | [.py (.tuple ds)] => some (.py (.list ds))
  | _ => none
theorem cd_list : CallD X k (fun xs H Q => ∃ p ys, xs = [.ref p] ∧ (SqL X.K H p ys ∨ SqT X.K H p ys) ∧ ∀ l, H l = none → Q (.ref l) (upd H l (.lst ys))) listG := by
  intro F H s xs ds d Q ok r h q
  unfold listG at h
  split at h
  · cases h
    obtain ⟨v, rfl, rv⟩ := reps1 r
    cases rv with
    | lst ha rr => exact ⟨_, _, rfl, .inl ha.sq, fun l hl => new_lst (X := X) ok hl rr q⟩
  · cases h
    obtain ⟨v, rfl, rv⟩ := reps1 r
    cases rv with
    | tup ha rr => exact ⟨_, _, rfl, .inr ha.sq, fun l hl => new_lst (X := X) ok hl rr q⟩
  · cases h
/-! sum of ints -/
def intsOf : List PyData → Option (List Int)
  | [] => some []
  | .int i :: r => (intsOf r).map fun q => i :: q
  | _ :: _ => none
theorem intsOf_eq : ∀ {ds : List PyData} {ns : List Int}, intsOf ds = some ns → ds = ns.map .int
  | [], _, h => by cases h; rfl
  | .int i :: r, ns, h => by
    unfold intsOf at h
    cases e : intsOf r with
    | none => rw [e] at h; cases h
    | some q => rw [e] at h; cases h; rw [List.map_cons, ← intsOf_eq e]
  | .none :: _, _, h => by cases h
  | .bool _ :: _, _, h => by cases h
  | .str _ :: _, _, h => by cases h
  | .list _ :: _, _, h => by cases h
  | .tuple _ :: _, _, h => by cases h
  | .dict _ :: _, _, h => by cases h
def sumG : List D → Option D
  | [.py (.list ds)] => (intsOf ds).map fun ns => .py (.int ns.sum)
  | _ => none
theorem cd_sum : CallD X k (rSum X.K) sumG := by
  intro F H s xs ds d Q ok r h q
  unfold sumG at h
  split at h
  · rename_i ps
    cases e : intsOf ps with
    | none => rw [e] at h; cases h
    | some ns =>
    rw [e] at h
    cases h
    obtain ⟨v, rfl, rv⟩ := reps1 r
    cases rv with
    | lst ha rr =>
      rw [intsOf_eq e] at rr
      have := rr.ints
      subst this
      exact ⟨_, ns, rfl, ha.sq, q _ F H .refl ok (.int _)⟩
  · cases h
/-! min of a list of data -/
def alikeC (ds : List PyData) : Bool := ds.all (fun x => ds.all (fun y => PySem.W.alike x y)) && ds.all notNone
theorem alikeC_ok {ds : List PyData} (h : alikeC ds = true) : PySem.W.AlikeAll ds := by
  unfold alikeC at h
  simp only [Bool.and_eq_true, List.all_eq_true] at h
  exact ⟨fun x hx y hy => h.1 x hx y hy, fun x hx => notNone_ne (h.2 x hx)⟩
def rMinD (K : PySem.W.Frag) : List V → Hp → VK → Prop := fun vs H Q => ∃ a xs d ds, vs = [.ref a] ∧ SqL K H a xs ∧ DpAll K H xs (d :: ds) ∧ PySem.W.AlikeAll (d :: ds) ∧ PyData.plainAll (d :: ds) = true ∧ PyData.depthAll (d :: ds) ≤ 60 ∧
  ∀ (i : Nat) v, xs[i]? = some v → (d :: ds)[i]? = some (PySem.W.minD d ds) → Q v H
theorem cr_minD (hc : X.calm = true) (hu : X.A.units + 64 < cLine) : CallR X (.builtin "min") (rMinD X.K) := by
  intro pins s σ H xs us Q I r h
  obtain ⟨a, ys, d, ds, rfl, hq, hd, al, pl, dep, q⟩ := h
  obtain ⟨u, rfl, rx⟩ := vals1 r
  cases rx
  obtain ⟨its, rv, p, hz⟩ := I.list hq
  obtain ⟨as, hr⟩ := Dp.readsAll I (d :: ds) ys its hd rv
  refine PySem.W.min_list_data (I.ok.hd hc) (show s.heap.IsList a its.toArray from p.isList) (by simpa using hr) al (by omega) fun i v h' tk bs hv hrd kp => ?_
  have hv' : its[i]? = some v := by simpa using hv
  have hi : i < its.length := (List.getElem?_eq_some_iff.mp hv').1
  have hl := rv.length
  obtain ⟨w, hw⟩ : ∃ w, ys[i]? = some w := ⟨ys[i], List.getElem?_eq_getElem (by omega)⟩
  obtain ⟨u2, e2, r2⟩ := rv.get hw
  rw [hv'] at e2
  cases e2
  refine ⟨w, H, I.kept kp, r2, q i w hw ?_⟩
  -- the data at i is the least one
  have hlen : its.length = (d :: ds).length := SeqAt.ReadsAll.length _ _ _ hr
  have hi2 : i < (d :: ds).length := by omega
  have e3 : (d :: ds)[i]? = some (d :: ds)[i] := List.getElem?_eq_getElem hi2
  obtain ⟨bs2, hr2⟩ := PySem.W.readsAll_at hr i v hv'
  have e4 : (d :: ds).getD i .none = (d :: ds)[i] := by rw [List.getD_eq_getElem?_getD, e3]; rfl
  rw [e4] at hr2
  have hp1 : ((d :: ds)[i]).plain = true := plain_at pl (List.getElem_mem hi2)
  rw [e3, SeqAt.plain_unique _ _ v _ _ hp1 (Reads.keeps kp hr2.1) hrd]
where plain_at : ∀ {ps : List PyData} {p : PyData}, PyData.plainAll ps = true → p ∈ ps → p.plain = true
  | q :: ps, p, h, hm => by
    rw [PyData.plainAll, Bool.and_eq_true] at h
    rcases List.mem_cons.mp hm with e | e
    · rw [e]; exact h.1
    · exact plain_at h.2 e
def minG : List D → Option D
  | [.py (.list (d :: ds))] => if alikeC (d :: ds) && (PyData.plainAll (d :: ds) && decide (PyData.depthAll (d :: ds) ≤ 60)) then some (.py (PySem.W.minD d ds)) else none
  | _ => none
theorem cd_minD : CallD X k (rMinD X.K) minG := by
  intro F H s xs ds d Q ok r h q
  unfold minG at h
  split at h
  · rename_i p ps
    split at h
    · rename_i hc
      cases h
      simp only [Bool.and_eq_true, decide_eq_true_eq] at hc
      obtain ⟨v, rfl, rv⟩ := reps1 r
      cases rv with
      | lst ha rr =>
        refine ⟨_, _, p, ps, rfl, ha.sq, rr.dp, alikeC_ok hc.1, hc.2.1, hc.2.2, fun i v hv he => ?_⟩
        obtain ⟨w, e1, e2⟩ := rr.get he
        rw [hv] at e1
        cases e1
        exact q v F H .refl ok e2
    · cases h
  · cases h
/-! min(a, b), max(a, b) of ints -/
def min2G : List D → Option D
  | [.py (.int i), .py (.int j)] => some (.py (.int (if j < i then j else i)))
  | _ => none
def max2G : List D → Option D
  | [.py (.int i), .py (.int j)] => some (.py (.int (if j > i then j else i)))
  | _ => none
theorem cd_min2 : CallD X k (fun xs H Q => ∃ i j, xs = [.int i, .int j] ∧ Q (.int (if j < i then j else i)) H) min2G := by
  intro F H s xs ds d Q ok r h q
  unfold min2G at h
  split at h
  · cases h
    obtain ⟨v, u, rfl, rv, ru⟩ := reps2 r
    cases rv; cases ru
    exact ⟨_, _, rfl, q _ F H .refl ok (.int _)⟩
  · cases h
theorem cd_max2 : CallD X k (fun xs H Q => ∃ i j, xs = [.int i, .int j] ∧ Q (.int (if j > i then j else i)) H) max2G := by
  intro F H s xs ds d Q ok r h q
  unfold max2G at h
  split at h
  · cases h
    obtain ⟨v, u, rfl, rv, ru⟩ := reps2 r
    cases rv; cases ru
    exact ⟨_, _, rfl, q _ F H .refl ok (.int _)⟩
  · cases h

/-! isinstance(x, T) -/
inductive Ty where | int | bool | tuple | list | str
  deriving DecidableEq
def Ty.name : Ty → String
  | .int => "int" | .bool => "bool" | .tuple => "tuple" | .list => "list" | .str => "str"
def tyN : PyData → String
  | .int _ => "int" | .bool _ => "bool" | .none => "NoneType"
  | .tuple _ => "tuple" | .list _ => "list"
  | .str _ => "str" | .dict _ => "dict"
def isaB : PyData → Ty → Bool
  | .int _, .int => true
  | .bool _, .int => true
  | .bool _, .bool => true
  | .tuple _, .tuple => true
  | .list _, .list => true
  | .str _, .str => true
  | _, _ => false
theorem tyX_of {K : PySem.W.Frag} {F : Fz} {H : Hp} {p : PyData} {v : V} (r : Rp K F H p v) : TyX K H v (.type (tyN p)) := by
  cases r with
  | non => exact .base .non
  | bl b => exact .base (.bl b)
  | int i => exact .base (.int i)
  | str x => exact .base (.str x)
  | lst ha rr => exact .base (.lst ha.2)
  | tup ha rr =>
    rcases ha with ⟨_, h⟩ | h
    · exact .base (.tup h)
    · rcases h with h | ⟨o, its, n, h1, h2, _⟩
      · rcases h with h | ⟨o, h⟩ <;> cases h
      · exact .kTuple h1 h2
def fIsa (T : Ty) (f : FE) : FE := fun env s => (f env s).bind fun p => match p.1 with | .py (.dict _) => none | .py q => some (.py (.bool (isaB q T)), p.2) | _ => none
def kitAll : Bool := [("NoneType"), ("bool"), ("int"), ("str"), ("list"), ("tuple")].all fun a => [Ty.int, .bool, .tuple, .list, .str].all fun T =>
  kitB a T.name == some (match a, T with | "int", .int => true | "bool", .int => true | "bool", .bool => true | "tuple", .tuple => true | "list", .list => true | "str", .str => true | _, _ => false)
theorem kit_NoneType (T : Ty) : kitB "NoneType" T.name = some false := by cases T <;> decide +kernel
theorem kit_bool (T : Ty) (b : Bool) : kitB "bool" T.name = some (isaB (.bool b) T) := by cases T <;> (show kitB "bool" _ = some _) <;> simp only [isaB] <;> decide +kernel
theorem kit_int (T : Ty) (i : Int) : kitB "int" T.name = some (isaB (.int i) T) := by cases T <;> simp only [isaB] <;> decide +kernel
theorem kit_str (T : Ty) (i : Str) : kitB "str" T.name = some (isaB (.str i) T) := by cases T <;> simp only [isaB] <;> decide +kernel
theorem kit_list (T : Ty) (i : List PyData) : kitB "list" T.name = some (isaB (.list i) T) := by cases T <;> simp only [isaB] <;> decide +kernel
theorem kit_tuple (T : Ty) (i : List PyData) : kitB "tuple" T.name = some (isaB (.tuple i) T) := by cases T <;> simp only [isaB] <;> decide +kernel
theorem kit_all {K : PySem.W.Frag} {p : PyData} (T : Ty) (h : ∀ z, p ≠ .dict z) : PySem.W.kitOne K (.type (tyN p)) (.type T.name) = some (isaB p T) := by
  refine kit_ty ?_
  cases p with
  | none => rw [show isaB .none T = false by cases T <;> rfl]; exact kit_NoneType T
  | bool b => exact kit_bool T b
  | int b => exact kit_int T b
  | str b => exact kit_str T b
  | list b => exact kit_list T b
  | tuple b => exact kit_tuple T b
  | dict b => exact absurd rfl (h b)
theorem boot_ty (T : Ty) : bootBuiltins (Str.ofString T.name) = some (.type T.name) := by cases T <;> decide +kernel
theorem ev_isa {a : Expr} {fa : FE} {T : Ty} {p p2 pos : Pos} (hg : Gl X "isinstance") (hm : X.mg "isinstance" = none) (hg2 : Gl X (Str.ofString T.name)) (hm2 : X.mg (Str.ofString T.name) = none) (ha : EV X k O a fa)
    (hs : starEach [a, .Name (Str.ofString T.name) p2] X.env = (false, eval a X.env) :: starEach [.Name (Str.ofString T.name) p2] X.env) :
    EV X k O (.Call (.Name "isinstance" p) [a, .Name (Str.ofString T.name) p2] [] pos) (fIsa T fa) := by
  obtain ⟨ta, pa, qa⟩ := ha
  have n1 : Str.ofString T.name ≠ "__name__" := by cases T <;> decide +kernel
  have n2 : ((Str.ofString T.name) == ("__debug__" : Str)) = false := by cases T <;> decide +kernel
  have pt : PE X (.Name (Str.ofString T.name) p2) (tC (.ty T.name)) := pe_bltn hg2 hm2 (boot_ty T) rfl n1 n2
  refine ⟨_, pe_callB call_isi hg hm boot_isinstance (pa_cons pa (pa_cons pt pa_nil rfl) hs) (by decide) (by decide) hs rfl, fun F0 H0 F H σ env s d s' Q G h q => ?_⟩
  unfold fIsa at h
  cases e1 : fa env s with
  | none => rw [e1] at h; cases h
  | some pp =>
  obtain ⟨x, s1⟩ := pp
  rw [e1] at h
  simp only [Option.bind_some] at h
  split at h
  · cases h
  · rename_i z hnd
    cases h
    refine qa F0 H0 F H σ env s _ _ _ G e1 fun v F1 H1 st1 ok1 r1 => ?_
    exact ⟨v, .ty T.name, .type (tyN z), .type T.name, isaB z T, rfl, clsV T, tyX_of r1, kit_all T (fun w e => hnd w (by rw [e])), q _ F1 H1 st1 ok1 (.bl _)⟩
  · cases h
where clsV (T : Ty) : ClsV (.ty T.name) (.type T.name) := by constructor
/-! xs.index(e), a list of data -/
def idxG : PyData → PyData → Option PyData
  | .list ds, p => if SeqAt.shaped (.list ds) && SeqAt.shaped p then (ds.findIdx? fun z => PyData.eqv z p).map fun j => .int j else none
  | _, _ => none
theorem ev_index {a b : Expr} {fa fb : FE} {apos cpos : Pos} (hu : X.A.units + 65 < cLine) (ha : EV X k O a fa) (hb : EV X k O b fb) (hbase : attributeBase a "index" X.env (eval a X.env) = eval a X.env) (hst : starEach [b] X.env = (false, eval b X.env) :: starEach [] X.env) (hline : (apos.endLine == cpos.line) = true) :
    EV X k O (.Call (.Attribute a "index" apos) [b] [] cpos) (f2 (pyD idxG) fa fb) := by
  obtain ⟨ta, pa, qa⟩ := ha
  obtain ⟨tb, pb, qb⟩ := hb
  have hfew : ((backTo cpos (starEach [b] X.env)).all (fun x => !x.1) && (backToKw cpos (keywordEach [] X.env)).all (fun x => x.1.isSome)
      && decide ([b].length + ([] : List Keyword).length + (if ([] : List Keyword).isEmpty then 0 else 1) < 30)) = true := by rw [hst]; rfl
  refine ⟨_, pe_bm PySem.F.plainAttrs_list PySem.F.slot_list_index PySem.F.type_list_index (mt_indexD hu) pa (pa_cons pb pa_nil hst) hbase hfew hline hst rfl, fun F0 H0 F H σ env s d s' Q G h q => ?_⟩
  obtain ⟨x, s1, y, e1, e2, e3⟩ := f2_some h
  obtain ⟨p, p2, r, rfl, rfl, e4, rfl⟩ := pyD_some e3
  unfold idxG at e4
  split at e4
  · rename_i ds
    split at e4
    · rename_i hc
      simp only [Bool.and_eq_true] at hc
      cases e5 : ds.findIdx? (fun z => PyData.eqv z p2) with
      | none => rw [e5] at e4; cases e4
      | some j =>
      rw [e5] at e4
      cases e4
      refine qa F0 H0 F H σ env s _ s1 _ G e1 fun v F1 H1 st1 ok1 r1 => ?_
      cases r1 with
      | lst ha rr =>
        refine ⟨.inl ⟨rfl, _, ha.sq⟩, qb F0 H0 F1 H1 σ env s1 _ s' _ (G.step st1 ok1) e2 fun u F2 H2 st2 ok2 r2 => ?_⟩
        have ex := st2.ext ok1
        have hj := List.findIdx?_eq_some_iff_findIdx_eq.mp e5
        have hlt := hj.1
        have hp : PyData.eqv ds[j] p2 = true := by
          have := List.findIdx?_eq_some_iff_getElem.mp e5
          obtain ⟨h1, h2, _⟩ := this
          exact h2
        have hb : ∀ (m : Nat) (z' : PyData), m < j → ds[m]? = some z' → PyData.eqv z' p2 = false := fun m z' hm hz => by
          obtain ⟨h1, h2, h3⟩ := List.findIdx?_eq_some_iff_getElem.mp e5
          have := h3 m hm
          obtain ⟨hml, e⟩ := List.getElem?_eq_some_iff.mp hz
          rw [← e]
          simpa using this
        exact ⟨_, u, p2, ds, j, ds[j], rfl, rfl, Rp.dp (.lst (ha.ext ex) (rr.ext ex)), Rp.dp r2, hc.1, hc.2, List.getElem?_eq_getElem hlt, hp, hb, q _ F2 H2 (st1.then st2 G.ok ok2) ok2 (.int _)⟩
    · cases e4
  · cases e4
end
end Rf

namespace Rf
open PySem PySem.Spec PyProof.Rows L2

structure Tb where
  fns : List (Str × Nat × FN)
  csts : List (Str × PyData)
  blts : List Str
inductive Bop where | add | sub | mul | fdiv | mod | pow
  deriving DecidableEq
inductive Cop where | eq | ne | cm (c : Cm) | inn | notin | isN | notN
  deriving DecidableEq
inductive Blt where | len | abs | int | tuple | list | sum | minD | min2 | max2
  deriving DecidableEq
def Bop.op : Bop → Operator
  | .add => .Add | .sub => .Sub | .mul => .Mult | .fdiv => .FloorDiv | .mod => .Mod | .pow => .Pow
def Bop.g : Bop → D → D → Option D
  | .add => addD | .sub => subD | .mul => mulD | .fdiv => fdivD | .mod => modD | .pow => powD
def Cop.op : Cop → CmpOp
  | .eq => .Eq | .ne => .NotEq | .cm c => c.op | .inn => .In | .notin => .NotIn | .isN => .Is | .notN => .IsNot
def Cop.g : Cop → D → D → Option D
  | .eq => pyD (eqG false) | .ne => pyD (eqG true) | .cm c => pyD (cmG c) | .inn => pyD (inG false) | .notin => pyD (inG true) | .isN => isND false | .notN => isND true
def Blt.name : Blt → String
  | .len => "len" | .abs => "abs" | .int => "int" | .tuple => "tuple" | .list => "list" | .sum => "sum" | .minD => "min" | .min2 => "min" | .max2 => "max"
def Blt.g : Blt → List D → Option D
  | .len => lenG | .abs => absG | .int => intG | .tuple => tupleG | .list => listG | .sum => sumG | .minD => minG | .min2 => min2G | .max2 => max2G
theorem Bop.ok {X : Cx} {k : Dk} (o : Bop) : ∃ r, OpR X (binaryOp o.op) r ∧ OpD X k r o.g := by
  cases o
  · exact ⟨_, or_addD, od_addD⟩
  · exact ⟨_, op_sub, od_subD⟩
  · exact ⟨_, op_mul, od_mulD⟩
  · exact ⟨_, op_fdiv, od_fdivD⟩
  · exact ⟨_, op_mod, od_modD⟩
  · exact ⟨_, op_pow, od_powD⟩
theorem Cop.ok {X : Cx} {k : Dk} (hu : X.A.units + 64 < cLine) (o : Cop) : ∃ r, OpR X (compareOp o.op) r ∧ OpD X k r o.g := by
  cases o with
  | eq => exact ⟨_, or_eqP hu, od_eqG⟩
  | ne => exact ⟨_, or_neP hu, od_eqG⟩
  | cm c => exact ⟨_, or_cm hu c, od_cm⟩
  | inn => exact ⟨_, or_inP hu, od_inG⟩
  | notin => exact ⟨_, or_notInP hu, od_inG⟩
  | isN => exact ⟨_, or_isN, od_isND⟩
  | notN => exact ⟨_, or_notN, od_isND⟩

mutual
inductive E where
  | var (i : Nat)
  | litI (i : Int) | litB (b : Bool) | litN | litS (x : Str)
  | glob (j : Nat)
  | bin (o : Bop) (a b : E)
  | cmp (o : Cop) (a b : E)
  | chain (o o' : Cop) (a b c : E)
  | andV (vs : Vs) | orV (vs : Vs)
  | notV (a : E) | neg (a : E)
  | ite (c : T) (a b : E)
  | tup (es : Es) | lst (es : Es)
  | fn (j : Nat) (es : Es)
  | blt (b : Blt) (es : Es)
  | isa (t : Ty) (a : E)
  | ix (a b : E)
  | sl (a : E) (lo hi : Eo)
  | rev (a : E)
  | index (a b : E)
  | lc (O vs : List Nat) (g : G) (it : I) (ifs : To) (elt : E)
inductive Vs where | one (a : E) | cons (a : E) (vs : Vs)
inductive T where
  | val (e : E)
  | andT (ws : Ts) | orT (ws : Ts)
  | notT (a : T)
  | cmpT (o : Cop) (a b : E)
  | chainT (o o' : Cop) (a b c : E)
inductive Ts where | one (a : T) | cons (a : T) (ws : Ts)
inductive To where | none | some (t : T)
inductive Es where | nil | cons (e : E) (es : Es)
inductive Eo where | none | some (e : E)
inductive G where | name (i : Nat) | tup (gs : Gs)
inductive Gs where | nil | cons (g : G) (gs : Gs)
inductive I where | seq (e : E) | range1 (e : E) | range2 (a b : E) | zip (a b : E)
end
def Gs.len : Gs → Nat
  | .nil => 0
  | .cons _ r => r.len + 1

section den
variable (Γ : Tb)
mutual
def denE : E → FE
  | .var i => fVar i
  | .litI i => fLit (.int i)
  | .litB b => fLit (.bool b)
  | .litN => fLit .none
  | .litS x => fLit (.str x)
  | .glob j => match Γ.csts[j]? with | some (_, p) => fLit p | none => fun _ _ => none
  | .bin o a b => f2 o.g (denE a) (denE b)
  | .cmp o a b => f2 o.g (denE a) (denE b)
  | .chain o o' a b c => fChain o.g o'.g (denE a) (denE b) (denE c)
  | .andV vs => denAndV vs
  | .orV vs => denOrV vs
  | .notV a => fNotV (denE a)
  | .neg a => fNeg (denE a)
  | .ite c a b => fIf (denT c) (denE a) (denE b)
  | .tup es => fArgs (tupG 0) (denEs es)
  | .lst es => fArgs (lstG 0) (denEs es)
  | .fn j es => match Γ.fns[j]? with | some (_, n, g) => fFn n g (denEs es) | none => fun _ _ => none
  | .blt b es => fArgs b.g (denEs es)
  | .isa t a => fIsa t (denE a)
  | .ix a b => f2 (pyD ixG) (denE a) (denE b)
  | .sl a lo hi => fSl (denE a) (denO lo) (denO hi)
  | .rev a => fRev (denE a)
  | .index a b => f2 (pyD idxG) (denE a) (denE b)
  | .lc O vs g it ifs elt => fLc O vs (denI it) (denG g) (denTo ifs) (denE elt)
def denAndV : Vs → FE
  | .one a => denE a
  | .cons a vs => fAndV (denE a) (denAndV vs)
def denOrV : Vs → FE
  | .one a => denE a
  | .cons a vs => fOrV (denE a) (denOrV vs)
def denT : T → FT
  | .val e => fTru (denE e)
  | .andT ws => denAndT ws
  | .orT ws => denOrT ws
  | .notT a => fNotT (denT a)
  | .cmpT o a b => fAsB (f2 o.g (denE a) (denE b))
  | .chainT o o' a b c => fAsB (fChain o.g o'.g (denE a) (denE b) (denE c))
def denAndT : Ts → FT
  | .one a => denT a
  | .cons a ws => fAndT (denT a) (denAndT ws)
def denOrT : Ts → FT
  | .one a => denT a
  | .cons a ws => fOrT (denT a) (denOrT ws)
def denTo : To → FT
  | .none => tTrue
  | .some t => denT t
def denEs : Es → FA
  | .nil => aNil
  | .cons e es => aCons (denE e) (denEs es)
def denO : Eo → FO
  | .none => oNone
  | .some e => oSome (denE e)
def denG : G → FG
  | .name i => gSet i
  | .tup gs => gSeq gs.len (denGs gs)
def denGs : Gs → FGs
  | .nil => gsNil
  | .cons g gs => gsCons (denG g) (denGs gs)
def denI : I → FI
  | .seq e => iItems (denE e)
  | .range1 e => iArgs rng1 (aCons (denE e) aNil)
  | .range2 a b => iArgs rng2 (aCons (denE a) (aCons (denE b) aNil))
  | .zip a b => iArgs zipG (aCons (denE a) (aCons (denE b) aNil))
end
end den

/-! ### the look: is the text the one that the term means -/
def notStar : Expr → Bool
  | .Starred _ _ => false
  | _ => true
def notSet : Expr → Bool
  | .Set _ _ _ => false
  | _ => true
def notSlice : Expr → Bool
  | .Slice _ _ _ _ => false
  | _ => true
def notCall : Expr → Bool
  | .Call _ _ _ _ => false
  | _ => true
def notTup : Expr → Bool
  | .Tuple _ _ _ => false
  | _ => true
def plainTest : Expr → Bool
  | .UnaryOp .Not _ _ => false
  | .BoolOp _ _ _ => false
  | .IfExp _ _ _ _ => false
  | .Compare _ _ _ _ => false
  | _ => true
def isTup : Expr → Bool
  | .Tuple _ _ _ => true
  | _ => false
def visB (sc : Scope) (x : Str) : Bool := match sc.names.lookup x with | some .local => true | some .cell => true | some .free => true | _ => false
def glB (sc : Scope) (x : Str) : Bool := match sc.names.lookup x with | some .globalImplicit => true | _ => false
def locB (sc : Scope) (fn : Str → Bool) (x : Str) : Bool := match sc.names.lookup x with | some .local => true | some .cell => fn x | _ => false
def nodb (x : Str) : Bool := !(x == ("__debug__" : Str)) && !(x == ("__classdict__" : Str))
def blkFn (scope : Scope) : Str → Bool := fun x => scope.names.lookup x == some .cell
def ownOf (N : List Str) (vs : List Nat) : List (Str × Nat) := vs.map fun i => (N.getD i "", i)
theorem ownOf_snd (N : List Str) (vs : List Nat) : (ownOf N vs).map (·.2) = vs := by
  unfold ownOf
  rw [List.map_map]
  exact List.map_id' vs
section chk
variable (Γ : Tb) (N : List Str)
mutual
def chkE (sc : Scope) (fn : Str → Bool) (O : List Nat) : E → Expr → Bool
  | .var i, .Name x _ => decide (N[i]? = some x) && (visB sc x && (nodb x && !O.contains i))
  | .litI i, .Constant (.int j) _ _ => decide (i = j)
  | .litB i, .Constant (.bool j) _ _ => decide (i = j)
  | .litN, .Constant .none _ _ => true
  | .litS i, .Constant (.str j) _ _ => decide (i = j)
  | .glob j, .Name x _ => match Γ.csts[j]? with | some (y, _) => decide (y = x) && (glB sc x && nodb x) | none => false
  | .bin o a b, .BinOp a' op b' _ => decide (o.op = op) && (chkE sc fn O a a' && chkE sc fn O b b')
  | .cmp o a b, .Compare a' [op] [b'] _ => decide (o.op = op) && (chkE sc fn O a a' && (chkE sc fn O b b' && notSet b'))
  | .chain o o' a b c, .Compare a' [op, op'] [b', c'] _ => decide (o.op = op) && (decide (o'.op = op') && (chkE sc fn O a a' && (chkE sc fn O b b' && (chkE sc fn O c c' && notSet c'))))
  | .andV vs, .BoolOp .And es _ => chkVs sc fn O vs es
  | .orV vs, .BoolOp .Or es _ => chkVs sc fn O vs es
  | .notV a, .UnaryOp .Not a' _ => chkE sc fn O a a'
  | .neg a, .UnaryOp .USub a' _ => chkE sc fn O a a'
  | .ite c a b, .IfExp c' a' b' _ => chkT sc fn O c c' && (chkE sc fn O a a' && chkE sc fn O b b')
  | .tup es, .Tuple es' _ _ => chkEs sc fn O es es'
  | .lst es, .List es' _ => chkEs sc fn O es es'
  | .fn j es, .Call (.Name x _) es' [] _ => match Γ.fns[j]? with | some (y, _, _) => decide (y = x) && (glB sc x && (nodb x && chkEs sc fn O es es')) | none => false
  | .blt b es, .Call (.Name x _) (e' :: r') [] _ => decide (x = Str.ofString b.name) && (glB sc x && (decide (x ∈ Γ.blts) && chkEs sc fn O es (e' :: r')))
  | .isa t a, .Call (.Name x _) [a', .Name y _] [] _ => decide (x = ("isinstance" : Str)) && (decide (y = Str.ofString t.name) && (glB sc x && (glB sc y && (decide (x ∈ Γ.blts) && (decide (y ∈ Γ.blts) && (chkE sc fn O a a' && notStar a'))))))
  | .ix a b, .Subscript a' b' _ => chkE sc fn O a a' && (chkE sc fn O b b' && notSlice b')
  | .sl a lo hi, .Subscript a' (.Slice lo' hi' none _) _ => chkE sc fn O a a' && (chkO sc fn O lo lo' && chkO sc fn O hi hi')
  | .rev a, .Subscript a' (.Slice none none (some (.UnaryOp .USub (.Constant (.int i) _ _) _)) _) _ => decide (i = 1) && chkE sc fn O a a'
  | .index a b, .Call (.Attribute a' m apos) [b'] [] cpos => decide (m = ("index" : Str)) && ((apos.endLine == cpos.line) && (chkE sc fn O a a' && (chkE sc fn O b b' && (notStar b' && notCall a'))))
  | .lc O1 vs g it ifs elt, .ListComp elt' [⟨tg, iter, ifs', as⟩] scope _ => decide (as = 0) && (decide (O1 = O) && (L2.blkC N sc scope (ownOf N vs) && (chkI sc fn O it iter && (notSet iter && ((match it with | .zip _ _ => isTup tg | _ => true) &&
      (chkG (relS scope sc) (blkFn scope) [] vs g tg && (chkTo (relS scope sc) (blkFn scope) [] ifs ifs' && chkE (relS scope sc) (blkFn scope) [] elt elt')))))))
  | _, _ => false
def chkVs (sc : Scope) (fn : Str → Bool) (O : List Nat) : Vs → List Expr → Bool
  | .one a, [e] => chkE sc fn O a e
  | .cons a vs, e :: e2 :: r => chkE sc fn O a e && chkVs sc fn O vs (e2 :: r)
  | _, _ => false
def chkT (sc : Scope) (fn : Str → Bool) (O : List Nat) : T → Expr → Bool
  | .val e, ex => chkE sc fn O e ex && plainTest ex
  | .andT ws, .BoolOp .And es _ => chkTs sc fn O ws es
  | .orT ws, .BoolOp .Or es _ => chkTs sc fn O ws es
  | .notT a, .UnaryOp .Not a' _ => chkT sc fn O a a'
  | .cmpT o a b, .Compare a' [op] [b'] _ => decide (o.op = op) && (chkE sc fn O a a' && (chkE sc fn O b b' && notSet b'))
  | .chainT o o' a b c, .Compare a' [op, op'] [b', c'] _ => decide (o.op = op) && (decide (o'.op = op') && (chkE sc fn O a a' && (chkE sc fn O b b' && (chkE sc fn O c c' && notSet c'))))
  | _, _ => false
def chkTs (sc : Scope) (fn : Str → Bool) (O : List Nat) : Ts → List Expr → Bool
  | .one a, [e] => chkT sc fn O a e
  | .cons a ws, e :: e2 :: r => chkT sc fn O a e && chkTs sc fn O ws (e2 :: r)
  | _, _ => false
def chkTo (sc : Scope) (fn : Str → Bool) (O : List Nat) : To → List Expr → Bool
  | .none, [] => true
  | .some t, [e] => chkT sc fn O t e
  | _, _ => false
def chkEs (sc : Scope) (fn : Str → Bool) (O : List Nat) : Es → List Expr → Bool
  | .nil, [] => true
  | .cons e es, x :: xs => chkE sc fn O e x && (notStar x && chkEs sc fn O es xs)
  | _, _ => false
def chkO (sc : Scope) (fn : Str → Bool) (O : List Nat) : Eo → Option Expr → Bool
  | .none, none => true
  | .some e, some x => chkE sc fn O e x
  | _, _ => false
def chkG (sc : Scope) (fn : Str → Bool) (O vs : List Nat) : G → Expr → Bool
  | .name i, .Name x _ => decide (N[i]? = some x) && (locB sc fn x && (!O.contains i && vs.contains i))
  | .tup gs, .Tuple es _ _ => chkGs sc fn O vs gs es
  | _, _ => false
def chkGs (sc : Scope) (fn : Str → Bool) (O vs : List Nat) : Gs → List Expr → Bool
  | .nil, [] => true
  | .cons g gs, e :: es => chkG sc fn O vs g e && chkGs sc fn O vs gs es
  | _, _ => false
def chkI (sc : Scope) (fn : Str → Bool) (O : List Nat) : I → Expr → Bool
  | .seq e, x => chkE sc fn O e x
  | .range1 e, .Call (.Name x _) [a] [] _ => decide (x = ("range" : Str)) && (glB sc x && (decide (x ∈ Γ.blts) && (chkE sc fn O e a && notStar a)))
  | .range2 a b, .Call (.Name x _) [a', b'] [] _ => decide (x = ("range" : Str)) && (glB sc x && (decide (x ∈ Γ.blts) && (chkE sc fn O a a' && (notStar a' && (chkE sc fn O b b' && notStar b')))))
  | .zip a b, .Call (.Name x _) [a', b'] [] _ => decide (x = ("zip" : Str)) && (glB sc x && (decide (x ∈ Γ.blts) && (chkE sc fn O a a' && (notStar a' && (chkE sc fn O b b' && notStar b')))))
  | _, _ => false
end
end chk
end Rf

namespace Rf
open PySem PySem.Spec PyProof.Rows L2

structure XOk (Γ : Tb) (N : List Str) (lv : Nat) (k : Dk) (X : Cx) (sc : Scope) (fn : Str → Bool) : Prop where
  hN : X.N = N
  nd : N.Nodup
  hsc : X.env.scope = sc
  kind : sc.kind = .function
  hfn : ∀ x, fn x = true → X.fn x = true
  calm : X.calm = true
  room : Room lv X.A
  fns : ∀ (j : Nat) x n g, Γ.fns[j]? = some (x, n, g) → ∃ fa fd ps, FnOk X.prog X.w X.K X.mg X.base CX0 lv fa fd ps (spOf X.K k n g) ∧ X.mg x = some (.ref fa) ∧ PySem.W.keepIn X.K (.ref fa) = true ∧ Binds X.K fd ps []
  csts : ∀ (j : Nat) x p, Γ.csts[j]? = some (x, p) → ∃ v u, X.mg x = some u ∧ RelV v u ∧ Rp X.K (fun _ => False) (fun _ => none) p v
  blts : ∀ x, x ∈ Γ.blts → X.mg x = none
section
variable {Γ : Tb} {N : List Str} {lv : Nat} {k : Dk} {X : Cx} {sc : Scope} {fn : Str → Bool} {O : List Nat}
theorem XOk.blk {scope : Scope} {s : Shared} {H : Hp} {cl : List (Str × Addr)} {C : Addr} {fp : List Addr} (h : XOk Γ N lv k X sc fn) (hk : scope.kind = .function) : XOk Γ N lv k (X.blk s H scope (compEnvC scope cl C X.env) fp) (relS scope sc) (blkFn scope) where
  hN := h.hN
  nd := h.nd
  hsc := by rw [← h.hsc]; rfl
  kind := hk
  hfn := fun _ z => z
  calm := h.calm
  room := h.room
  fns := h.fns
  csts := h.csts
  blts := h.blts
theorem XOk.gl {x : Str} (h : XOk Γ N lv k X sc fn) (g : glB sc x = true) : Gl X x := by
  show X.env.scope.names.lookup x = some .globalImplicit
  rw [h.hsc]
  unfold glB at g
  split at g
  · assumption
  · cases g
theorem XOk.vis {x : Str} (h : XOk Γ N lv k X sc fn) (g : visB sc x = true) : Vis X.env.scope x := by
  rw [h.hsc]
  unfold visB at g
  split at g
  · exact .inl (by assumption)
  · exact .inr (.inl (by assumption))
  · exact .inr (.inr (by assumption))
  · cases g
theorem XOk.loc {x : Str} (h : XOk Γ N lv k X sc fn) (g : locB sc fn x = true) : Loc X.env.scope x ∧ (X.fn x = true ∨ X.env.scope.names.lookup x = some .local) := by
  rw [h.hsc]
  unfold locB at g
  split at g
  · exact ⟨.inl (by assumption), .inr (by assumption)⟩
  · exact ⟨.inr (by assumption), .inl (h.hfn x g)⟩
  · cases g
theorem nodb_ok {x : Str} (h : nodb x = true) : (x == ("__debug__" : Str)) = false ∧ (x == ("__classdict__" : Str)) = false := by
  unfold nodb at h
  simp only [Bool.and_eq_true, Bool.not_eq_true'] at h
  exact h
theorem star_cons {e : Expr} (h : notStar e = true) (es : List Expr) (env : Env) : starEach (e :: es) env = (false, eval e env) :: starEach es env := by
  cases e <;> first | rfl | exact Bool.noConfusion (show false = true from h)
theorem set_marks {op : CmpOp} {e : Expr} (h : notSet e = true) : behindInMarks op e = false := by
  cases e <;> first | rfl | exact Bool.noConfusion (show false = true from h)
theorem set_folded {e : Expr} {env : Env} (h : notSet e = true) : ∀ x, foldedSetIterable e env x = pure x := by
  intro x
  cases e <;> first | rfl | exact Bool.noConfusion (show false = true from h)
theorem slice_plain {b : Expr} (h : notSlice b = true) : PlainIx b := by
  intro o i
  cases b <;> first | rfl | exact Bool.noConfusion (show false = true from h)
theorem call_base {a : Expr} {env : Env} (h : notCall a = true) : attributeBase a "index" env (eval a env) = eval a env := by
  cases a <;> first | rfl | exact Bool.noConfusion (show false = true from h)
theorem test_plain {e : Expr} {env : Env} (h : plainTest e = true) : ∀ whole, isTrue e env whole = (do let v ← whole; standAt e.pos; holding [v] (truthy v)) := by
  intro whole
  cases e with
  | UnaryOp op a pos =>
    cases op with
    | Not => exact Bool.noConfusion (show false = true from h)
    | _ => rfl
  | BoolOp _ _ _ => exact Bool.noConfusion (show false = true from h)
  | IfExp _ _ _ _ => exact Bool.noConfusion (show false = true from h)
  | Compare _ _ _ _ => exact Bool.noConfusion (show false = true from h)
  | _ => rfl
theorem asg_star {e : Expr} {es : List Expr} {env : Env} (h : notStar e = true) : (assignEach (e :: es) env) = (false, assign e env) :: assignEach es env := by
  cases e <;> first | rfl | exact Bool.noConfusion (show false = true from h)
theorem chkEs_star : ∀ {es : Es} {xs : List Expr} {env : Env} {pos : Pos}, chkEs Γ N sc fn O es xs = true → (backTo pos (starEach xs env)).any (·.1) = false
  | .nil, [], _, _, _ => rfl
  | .nil, _ :: _, _, _, h => Bool.noConfusion (show false = true from h)
  | .cons _ _, [], _, _, h => Bool.noConfusion (show false = true from h)
  | .cons e es, x :: xs, env, pos, h => by
    have h : (chkE Γ N sc fn O e x && (notStar x && chkEs Γ N sc fn O es xs)) = true := h
    simp only [Bool.and_eq_true] at h
    rw [star_cons h.2.1]
    show (false || (backTo pos (starEach xs env)).any (·.1)) = false
    rw [chkEs_star h.2.2]
    rfl
theorem mem_not {i : Nat} (h : (!O.contains i) = true) : i ∉ O := by
  intro z
  rw [List.contains_iff_mem.mpr z] at h
  cases h
theorem g_star {g : G} {vs : List Nat} {x : Expr} (h : chkG Γ N sc fn O vs g x = true) : notStar x = true := by
  cases g <;> (cases x <;> first | rfl | exact Bool.noConfusion (show false = true from h))
theorem gs_len : ∀ (gs : Gs) {vs : List Nat} {xs : List Expr} {env : Env}, chkGs Γ N sc fn O vs gs xs = true → (assignEach xs env).length = gs.len
  | .nil, _, [], _, _ => rfl
  | .nil, _, _ :: _, _, h => Bool.noConfusion (show false = true from h)
  | .cons _ _, _, [], _, h => Bool.noConfusion (show false = true from h)
  | .cons g gs, vs, x :: xs, env, h => by
    have h : (chkG Γ N sc fn O vs g x && chkGs Γ N sc fn O vs gs xs) = true := h
    simp only [Bool.and_eq_true] at h
    rw [asg_star (g_star h.1), List.length_cons, gs_len gs h.2]
    rfl
theorem gs_star : ∀ (gs : Gs) {vs : List Nat} {xs : List Expr} {env : Env}, chkGs Γ N sc fn O vs gs xs = true → (assignEach xs env).findIdx? (·.1) = none
  | .nil, _, [], _, _ => rfl
  | .nil, _, _ :: _, _, h => Bool.noConfusion (show false = true from h)
  | .cons _ _, _, [], _, h => Bool.noConfusion (show false = true from h)
  | .cons g gs, vs, x :: xs, env, h => by
    have h : (chkG Γ N sc fn O vs g x && chkGs Γ N sc fn O vs gs xs) = true := h
    simp only [Bool.and_eq_true] at h
    rw [asg_star (g_star h.1), List.findIdx?_cons, gs_star gs h.2]
    rfl
theorem bltE {e : Expr} {es : List Expr} {fs : FA} {p pos : Pos} (b : Blt) (hx : XOk Γ N lv k X sc fn) (hg : glB sc (Str.ofString b.name) = true) (hm : Str.ofString b.name ∈ Γ.blts) (ha : AV X k O (e :: es) fs) (he : starEach (e :: es) X.env = (false, eval e X.env) :: starEach es X.env) (hpl : (backTo pos (starEach es X.env)).any (·.1) = false) :
    EV X k O (.Call (.Name (Str.ofString b.name) p) (e :: es) [] pos) (fArgs b.g fs) := by
  have hu := hx.room.units
  cases b with
  | len => exact ev_callB call_len_seq cd_len (hx.gl hg) (hx.blts _ hm) PySem.boot_len ha (by decide) (by decide) he hpl
  | abs => exact ev_callB call_abs cd_abs (hx.gl hg) (hx.blts _ hm) boot_abs ha (by decide) (by decide) he hpl
  | int => exact ev_callTy call_int1 cd_int (hx.gl hg) (hx.blts _ hm) (by decide +kernel) ha (by decide) (by decide) he hpl
  | tuple => exact ev_callTy call_tuple_of cd_tuple (hx.gl hg) (hx.blts _ hm) (by decide +kernel) ha (by decide) (by decide) he hpl
  | list => exact ev_callTy call_list_of cd_list (hx.gl hg) (hx.blts _ hm) (by decide +kernel) ha (by decide) (by decide) he hpl
  | sum => exact ev_callB (cr_sum hx.calm) cd_sum (hx.gl hg) (hx.blts _ hm) (by decide +kernel) ha (by decide) (by decide) he hpl
  | minD => exact ev_callB (cr_minD hx.calm hu) cd_minD (hx.gl hg) (hx.blts _ hm) (by decide +kernel) ha (by decide) (by decide) he hpl
  | min2 => exact ev_callB (call_min2 hx.calm) cd_min2 (hx.gl hg) (hx.blts _ hm) (by decide +kernel) ha (by decide) (by decide) he hpl
  | max2 => exact ev_callB (call_max2 hx.calm) cd_max2 (hx.gl hg) (hx.blts _ hm) (by decide +kernel) ha (by decide) (by decide) he hpl
end
section
variable {Γ : Tb} {N : List Str} {lv : Nat} {k : Dk}
mutual
theorem soundE : ∀ (e : E) {X : Cx} {sc : Scope} {fn : Str → Bool} {O : List Nat} {ex : Expr}, XOk Γ N lv k X sc fn → chkE Γ N sc fn O e ex = true → EV X k O ex (denE Γ e)
  | .var i, X, sc, fn, O, ex, hx, h => by
    cases ex with
    | Name x pos =>
      have h : (decide (N[i]? = some x) && (visB sc x && (nodb x && !O.contains i))) = true := h
      simp only [Bool.and_eq_true, decide_eq_true_eq] at h
      obtain ⟨h1, h2, h3, h4⟩ := h
      exact ev_var (by rw [hx.hN]; exact h1) (hx.vis h2) (mem_not h4) (nodb_ok h3).1 (nodb_ok h3).2
    | _ => exact Bool.noConfusion (show false = true from h)
  | .litI i, X, sc, fn, O, ex, hx, h => by
    cases ex with
    | Constant c j pos =>
      cases c with
      | int z =>
        have h : i = z := of_decide_eq_true h
        subst h
        exact ev_int
      | _ => exact Bool.noConfusion (show false = true from h)
    | _ => exact Bool.noConfusion (show false = true from h)
  | .litB i, X, sc, fn, O, ex, hx, h => by
    cases ex with
    | Constant c j pos =>
      cases c with
      | bool z =>
        have h : i = z := of_decide_eq_true h
        subst h
        exact ev_bool
      | _ => exact Bool.noConfusion (show false = true from h)
    | _ => exact Bool.noConfusion (show false = true from h)
  | .litN, X, sc, fn, O, ex, hx, h => by
    cases ex with
    | Constant c j pos =>
      cases c with
      | none => exact ev_none
      | _ => exact Bool.noConfusion (show false = true from h)
    | _ => exact Bool.noConfusion (show false = true from h)
  | .litS i, X, sc, fn, O, ex, hx, h => by
    cases ex with
    | Constant c j pos =>
      cases c with
      | str z =>
        have h : i = z := of_decide_eq_true h
        subst h
        exact ev_str
      | _ => exact Bool.noConfusion (show false = true from h)
    | _ => exact Bool.noConfusion (show false = true from h)
  | .glob j, X, sc, fn, O, ex, hx, h => by
    cases ex with
    | Name x pos =>
      have h : (match Γ.csts[j]? with | some (y, _) => decide (y = x) && (glB sc x && nodb x) | none => false) = true := h
      cases e : Γ.csts[j]? with
      | none => rw [e] at h; cases h
      | some yp =>
        obtain ⟨y, p⟩ := yp
        rw [e] at h
        simp only [Bool.and_eq_true, decide_eq_true_eq] at h
        obtain ⟨rfl, h2, h3⟩ := h
        obtain ⟨v, u, m, r, rp⟩ := hx.csts j y p e
        have hd : denE Γ (.glob j) = fLit p := by
          show (match Γ.csts[j]? with | some (_, p) => fLit p | none => fun _ _ => none) = fLit p
          rw [e]
        rw [hd]
        exact ev_glob (hx.gl h2) m r rp (nodb_ok h3).1
    | _ => exact Bool.noConfusion (show false = true from h)
  | .bin o a b, X, sc, fn, O, ex, hx, h => by
    cases ex with
    | BinOp a' op b' pos =>
      have h : (decide (o.op = op) && (chkE Γ N sc fn O a a' && chkE Γ N sc fn O b b')) = true := h
      simp only [Bool.and_eq_true, decide_eq_true_eq] at h
      obtain ⟨rfl, h2, h3⟩ := h
      obtain ⟨r, h4, h5⟩ := Bop.ok (X := X) (k := k) o
      exact ev_bin h4 h5 (soundE a hx h2) (soundE b hx h3)
    | _ => exact Bool.noConfusion (show false = true from h)
  | .cmp o a b, X, sc, fn, O, ex, hx, h => by
    cases ex with
    | Compare a' ops bs pos =>
      cases ops with
      | nil => exact Bool.noConfusion (show false = true from h)
      | cons op r =>
        cases r with
        | nil =>
          cases bs with
          | nil => exact Bool.noConfusion (show false = true from h)
          | cons b' r =>
            cases r with
            | nil =>
              have h : (decide (o.op = op) && (chkE Γ N sc fn O a a' && (chkE Γ N sc fn O b b' && notSet b'))) = true := h
              simp only [Bool.and_eq_true, decide_eq_true_eq] at h
              obtain ⟨rfl, h2, h3, h4⟩ := h
              obtain ⟨r, h5, h6⟩ := Cop.ok (X := X) (k := k) hx.room.units o
              exact ev_cmp h5 h6 (soundE a hx h2) (soundE b hx h3) (set_marks h4)
            | cons _ _ => exact Bool.noConfusion (show false = true from h)
        | cons _ r =>
          cases r with
          | nil =>
            cases bs with
            | nil => exact Bool.noConfusion (show false = true from h)
            | cons b' r =>
              cases r with
              | nil => exact Bool.noConfusion (show false = true from h)
              | cons _ r =>
                cases r with
                | nil => exact Bool.noConfusion (show false = true from h)
                | cons _ _ => exact Bool.noConfusion (show false = true from h)
          | cons _ _ => exact Bool.noConfusion (show false = true from h)
    | _ => exact Bool.noConfusion (show false = true from h)
  | .chain o o' a b c, X, sc, fn, O, ex, hx, h => by
    cases ex with
    | Compare a' ops bs pos =>
      cases ops with
      | nil => exact Bool.noConfusion (show false = true from h)
      | cons op r =>
        cases r with
        | nil =>
          cases bs with
          | nil => exact Bool.noConfusion (show false = true from h)
          | cons _ r =>
            cases r with
            | nil => exact Bool.noConfusion (show false = true from h)
            | cons _ _ => exact Bool.noConfusion (show false = true from h)
        | cons op' r =>
          cases r with
          | nil =>
            cases bs with
            | nil => exact Bool.noConfusion (show false = true from h)
            | cons b' r =>
              cases r with
              | nil => exact Bool.noConfusion (show false = true from h)
              | cons c' r =>
                cases r with
                | nil =>
                  have h : (decide (o.op = op) && (decide (o'.op = op') && (chkE Γ N sc fn O a a' && (chkE Γ N sc fn O b b' && (chkE Γ N sc fn O c c' && notSet c'))))) = true := h
                  simp only [Bool.and_eq_true, decide_eq_true_eq] at h
                  obtain ⟨rfl, rfl, h2, h3, h4, h5⟩ := h
                  obtain ⟨r, h6, h7⟩ := Cop.ok (X := X) (k := k) hx.room.units o
                  obtain ⟨r', h8, h9⟩ := Cop.ok (X := X) (k := k) hx.room.units o'
                  exact ev_chain h6 h8 h7 h9 (soundE a hx h2) (soundE b hx h3) (soundE c hx h4) (set_marks h5)
                | cons _ _ => exact Bool.noConfusion (show false = true from h)
          | cons _ _ => exact Bool.noConfusion (show false = true from h)
    | _ => exact Bool.noConfusion (show false = true from h)
  | .andV vs, X, sc, fn, O, ex, hx, h => by
    cases ex with
    | BoolOp op es pos =>
      cases op with
      | And => exact soundAndV vs hx h
      | Or => exact Bool.noConfusion (show false = true from h)
    | _ => exact Bool.noConfusion (show false = true from h)
  | .orV vs, X, sc, fn, O, ex, hx, h => by
    cases ex with
    | BoolOp op es pos =>
      cases op with
      | Or => exact soundOrV vs hx h
      | And => exact Bool.noConfusion (show false = true from h)
    | _ => exact Bool.noConfusion (show false = true from h)
  | .notV a, X, sc, fn, O, ex, hx, h => by
    cases ex with
    | UnaryOp op a' pos =>
      cases op with
      | Not => exact ev_not (soundE a hx h)
      | _ => exact Bool.noConfusion (show false = true from h)
    | _ => exact Bool.noConfusion (show false = true from h)
  | .neg a, X, sc, fn, O, ex, hx, h => by
    cases ex with
    | UnaryOp op a' pos =>
      cases op with
      | USub => exact ev_neg (soundE a hx h)
      | _ => exact Bool.noConfusion (show false = true from h)
    | _ => exact Bool.noConfusion (show false = true from h)
  | .ite c a b, X, sc, fn, O, ex, hx, h => by
    cases ex with
    | IfExp c' a' b' pos =>
      have h : (chkT Γ N sc fn O c c' && (chkE Γ N sc fn O a a' && chkE Γ N sc fn O b b')) = true := h
      simp only [Bool.and_eq_true] at h
      exact ev_if (soundT c hx h.1) (soundE a hx h.2.1) (soundE b hx h.2.2)
    | _ => exact Bool.noConfusion (show false = true from h)
  | .tup es, X, sc, fn, O, ex, hx, h => by
    cases ex with
    | Tuple es' x1 pos => exact ev_tup (soundEs es hx h)
    | _ => exact Bool.noConfusion (show false = true from h)
  | .lst es, X, sc, fn, O, ex, hx, h => by
    cases ex with
    | List es' pos => exact ev_lst (soundEs es hx h)
    | _ => exact Bool.noConfusion (show false = true from h)
  | .fn j es, X, sc, fn, O, ex, hx, h => by
    cases ex with
    | Call f es' kws pos =>
      cases f with
      | Name x p =>
        cases kws with
        | nil =>
          have h : (match Γ.fns[j]? with | some (y, _, _) => decide (y = x) && (glB sc x && (nodb x && chkEs Γ N sc fn O es es')) | none => false) = true := h
          cases e : Γ.fns[j]? with
          | none => rw [e] at h; cases h
          | some yp =>
            obtain ⟨y, n, g⟩ := yp
            rw [e] at h
            simp only [Bool.and_eq_true, decide_eq_true_eq] at h
            obtain ⟨rfl, h2, h3, h4⟩ := h
            obtain ⟨fa, fd, ps, F1, F2, F3, F4⟩ := hx.fns j y n g e
            have hd : denE Γ (.fn j es) = fFn n g (denEs Γ es) := by
              show (match Γ.fns[j]? with | some (_, n, g) => fFn n g (denEs Γ es) | none => fun _ _ => none) = _
              rw [e]
            rw [hd]
            cases es with
            | nil =>
              cases es' with
              | nil => exact ev_fn0 F1 hx.room (hx.gl h2) F2 F3 F4 (nodb_ok h3).1
              | cons _ _ => exact Bool.noConfusion (show false = true from h4)
            | cons a r =>
              cases es' with
              | nil => exact Bool.noConfusion (show false = true from h4)
              | cons a' r' =>
                have h5 : (chkE Γ N sc fn O a a' && (notStar a' && chkEs Γ N sc fn O r r')) = true := h4
                simp only [Bool.and_eq_true] at h5
                exact ev_fn F1 hx.room (hx.gl h2) F2 F3 F4 (soundEs (.cons a r) hx h4) (nodb_ok h3).1 (star_cons h5.2.1 _ _) (chkEs_star h5.2.2)
        | cons _ _ => exact Bool.noConfusion (show false = true from h)
      | _ => exact Bool.noConfusion (show false = true from h)
    | _ => exact Bool.noConfusion (show false = true from h)
  | .blt b es, X, sc, fn, O, ex, hx, h => by
    cases ex with
    | Call f es' kws pos =>
      cases f with
      | Name x p =>
        cases es' with
        | nil => exact Bool.noConfusion (show false = true from h)
        | cons a' r' =>
        cases kws with
        | nil =>
          have h : (decide (x = Str.ofString b.name) && (glB sc x && (decide (x ∈ Γ.blts) && chkEs Γ N sc fn O es (a' :: r')))) = true := h
          simp only [Bool.and_eq_true, decide_eq_true_eq] at h
          obtain ⟨rfl, h2, h3, h4⟩ := h
          cases es with
          | nil => exact Bool.noConfusion (show false = true from h4)
          | cons a r =>
            have h5 : (chkE Γ N sc fn O a a' && (notStar a' && chkEs Γ N sc fn O r r')) = true := h4
            simp only [Bool.and_eq_true] at h5
            exact bltE b hx h2 h3 (soundEs (.cons a r) hx h4) (star_cons h5.2.1 _ _) (chkEs_star h5.2.2)
        | cons _ _ => exact Bool.noConfusion (show false = true from h)
      | _ => exact Bool.noConfusion (show false = true from h)
    | _ => exact Bool.noConfusion (show false = true from h)
  | .isa t a, X, sc, fn, O, ex, hx, h => by
    unfold chkE at h
    split at h
    all_goals (first | contradiction | skip)
    rename_i heq
    cases heq
    simp only [Bool.and_eq_true, decide_eq_true_eq] at h
    obtain ⟨rfl, rfl, h1, h2, h3, h4, h5, h6⟩ := h
    exact ev_isa (hx.gl h1) (hx.blts _ h3) (hx.gl h2) (hx.blts _ h4) (soundE a hx h5) (star_cons h6 _ _)
  | .ix a b, X, sc, fn, O, ex, hx, h => by
    unfold chkE at h
    split at h
    all_goals (first | contradiction | skip)
    rename_i heq
    cases heq
    simp only [Bool.and_eq_true] at h
    exact ev_ix or_ix od_ixG (soundE a hx h.1) (soundE b hx h.2.1) (slice_plain h.2.2)
  | .sl a lo hi, X, sc, fn, O, ex, hx, h => by
    unfold chkE at h
    split at h
    all_goals (first | contradiction | skip)
    rename_i heq
    cases heq
    simp only [Bool.and_eq_true] at h
    exact ev_slice (soundE a hx h.1) (soundO lo hx h.2.1) (soundO hi hx h.2.2)
  | .rev a, X, sc, fn, O, ex, hx, h => by
    unfold chkE at h
    split at h
    all_goals (first | contradiction | skip)
    rename_i heq
    cases heq
    simp only [Bool.and_eq_true, decide_eq_true_eq] at h
    obtain ⟨rfl, h⟩ := h
    exact ev_rev (soundE a hx h)
  | .index a b, X, sc, fn, O, ex, hx, h => by
    unfold chkE at h
    split at h
    all_goals (first | contradiction | skip)
    rename_i heq
    cases heq
    simp only [Bool.and_eq_true, decide_eq_true_eq] at h
    obtain ⟨rfl, h1, h2, h3, h4, h5⟩ := h
    exact ev_index (by have := hx.room.un; omega) (soundE a hx h2) (soundE b hx h3) (call_base h5) (star_cons h4 _ _) h1
  | .lc O1 vs g it ifs elt, X, sc, fn, O, ex, hx, h => by
    unfold chkE at h
    split at h
    all_goals (first | contradiction | skip)
    rename_i heq
    cases heq
    simp only [Bool.and_eq_true, decide_eq_true_eq] at h
    obtain ⟨rfl, rfl, h1, h2, h3, h4, h5, h6, h7⟩ := h
    have ok := blkOk_by h1
    have hk := ok.kind
    have hd : denE Γ (.lc O1 vs g it ifs elt) = fLc O1 ((ownOf N vs).map (·.2)) (denI Γ it) (denG Γ g) (denTo Γ ifs) (denE Γ elt) := by
      rw [ownOf_snd]
      rfl
    rw [hd]
    exact ev_lc (own := ownOf N vs) hx.calm (by rw [hx.hN]; exact hx.nd) (soundI it hx h2 h4) (by rw [hx.hN, hx.hsc]; exact ok)
      (fun s H C cl fp => by rw [ownOf_snd]; exact soundG g (hx.blk hk) h5) (fun s H C cl fp => soundTo ifs (hx.blk hk) h6) (fun s H C cl fp => soundE elt (hx.blk hk) h7) (set_folded h3)
theorem soundAndV : ∀ (vs : Vs) {X : Cx} {sc : Scope} {fn : Str → Bool} {O : List Nat} {es : List Expr} {pos : Pos}, XOk Γ N lv k X sc fn → chkVs Γ N sc fn O vs es = true → EV X k O (.BoolOp .And es pos) (denAndV Γ vs)
  | .one a, X, sc, fn, O, es, pos, hx, h => by
    unfold chkVs at h
    split at h
    all_goals (first | contradiction | skip)
    rename_i heq
    cases heq
    exact ev_one (soundE a hx h)
  | .cons a vs, X, sc, fn, O, es, pos, hx, h => by
    unfold chkVs at h
    split at h
    all_goals (first | contradiction | skip)
    rename_i heq
    cases heq
    simp only [Bool.and_eq_true] at h
    exact ev_and (soundE a hx h.1) (soundAndV vs hx h.2)
theorem soundOrV : ∀ (vs : Vs) {X : Cx} {sc : Scope} {fn : Str → Bool} {O : List Nat} {es : List Expr} {pos : Pos}, XOk Γ N lv k X sc fn → chkVs Γ N sc fn O vs es = true → EV X k O (.BoolOp .Or es pos) (denOrV Γ vs)
  | .one a, X, sc, fn, O, es, pos, hx, h => by
    unfold chkVs at h
    split at h
    all_goals (first | contradiction | skip)
    rename_i heq
    cases heq
    exact ev_one (soundE a hx h)
  | .cons a vs, X, sc, fn, O, es, pos, hx, h => by
    unfold chkVs at h
    split at h
    all_goals (first | contradiction | skip)
    rename_i heq
    cases heq
    simp only [Bool.and_eq_true] at h
    exact ev_or (soundE a hx h.1) (soundOrV vs hx h.2)
theorem soundT : ∀ (t : T) {X : Cx} {sc : Scope} {fn : Str → Bool} {O : List Nat} {ex : Expr}, XOk Γ N lv k X sc fn → chkT Γ N sc fn O t ex = true → TV X k O ex (denT Γ t)
  | .val e, X, sc, fn, O, ex, hx, h => by
    unfold chkT at h
    simp only [Bool.and_eq_true] at h
    exact tv_val (soundE e hx h.1) (test_plain h.2)
  | .andT ws, X, sc, fn, O, ex, hx, h => by
    unfold chkT at h
    split at h
    all_goals (first | contradiction | skip)
    rename_i heq
    cases heq
    exact (soundAndT ws hx h).tv
  | .orT ws, X, sc, fn, O, ex, hx, h => by
    unfold chkT at h
    split at h
    all_goals (first | contradiction | skip)
    rename_i heq
    cases heq
    exact (soundOrT ws hx h).tv
  | .notT a, X, sc, fn, O, ex, hx, h => by
    unfold chkT at h
    split at h
    all_goals (first | contradiction | skip)
    rename_i heq
    cases heq
    exact tv_not (soundT a hx h)
  | .cmpT o a b, X, sc, fn, O, ex, hx, h => by
    unfold chkT at h
    split at h
    all_goals (first | contradiction | skip)
    rename_i heq
    cases heq
    simp only [Bool.and_eq_true, decide_eq_true_eq] at h
    obtain ⟨rfl, h2, h3, h4⟩ := h
    obtain ⟨r, h5, h6⟩ := Cop.ok (X := X) (k := k) hx.room.units o
    exact tv_cmp h5 h6 (soundE a hx h2) (soundE b hx h3) (set_marks h4)
  | .chainT o o' a b c, X, sc, fn, O, ex, hx, h => by
    unfold chkT at h
    split at h
    all_goals (first | contradiction | skip)
    rename_i heq
    cases heq
    simp only [Bool.and_eq_true, decide_eq_true_eq] at h
    obtain ⟨rfl, rfl, h2, h3, h4, h5⟩ := h
    obtain ⟨r, h6, h7⟩ := Cop.ok (X := X) (k := k) hx.room.units o
    obtain ⟨r', h8, h9⟩ := Cop.ok (X := X) (k := k) hx.room.units o'
    exact tv_chain h6 h8 h7 h9 (soundE a hx h2) (soundE b hx h3) (soundE c hx h4) (set_marks h5)
theorem soundAndT : ∀ (ws : Ts) {X : Cx} {sc : Scope} {fn : Str → Bool} {O : List Nat} {es : List Expr} {pos : Pos}, XOk Γ N lv k X sc fn → chkTs Γ N sc fn O ws es = true → WV X k O (.BoolOp .And es pos) (denAndT Γ ws)
  | .one a, X, sc, fn, O, es, pos, hx, h => by
    unfold chkTs at h
    split at h
    all_goals (first | contradiction | skip)
    rename_i heq
    cases heq
    exact wv_and1 (soundT a hx h)
  | .cons a ws, X, sc, fn, O, es, pos, hx, h => by
    unfold chkTs at h
    split at h
    all_goals (first | contradiction | skip)
    rename_i heq
    cases heq
    simp only [Bool.and_eq_true] at h
    exact wv_and (soundT a hx h.1) (soundAndT ws hx h.2)
theorem soundOrT : ∀ (ws : Ts) {X : Cx} {sc : Scope} {fn : Str → Bool} {O : List Nat} {es : List Expr} {pos : Pos}, XOk Γ N lv k X sc fn → chkTs Γ N sc fn O ws es = true → WV X k O (.BoolOp .Or es pos) (denOrT Γ ws)
  | .one a, X, sc, fn, O, es, pos, hx, h => by
    unfold chkTs at h
    split at h
    all_goals (first | contradiction | skip)
    rename_i heq
    cases heq
    exact wv_or1 (soundT a hx h)
  | .cons a ws, X, sc, fn, O, es, pos, hx, h => by
    unfold chkTs at h
    split at h
    all_goals (first | contradiction | skip)
    rename_i heq
    cases heq
    simp only [Bool.and_eq_true] at h
    exact wv_or (soundT a hx h.1) (soundOrT ws hx h.2)
theorem soundTo : ∀ (t : To) {X : Cx} {sc : Scope} {fn : Str → Bool} {O : List Nat} {es : List Expr}, XOk Γ N lv k X sc fn → chkTo Γ N sc fn O t es = true → TVs X k O es (denTo Γ t)
  | .none, X, sc, fn, O, es, hx, h => by
    cases es with
    | nil => exact tvs_nil
    | cons _ _ => exact Bool.noConfusion (show false = true from h)
  | .some t, X, sc, fn, O, es, hx, h => by
    unfold chkTo at h
    split at h
    all_goals (first | contradiction | skip)
    rename_i heq
    cases heq
    exact tvs_one (soundT t hx h)
theorem soundEs : ∀ (es : Es) {X : Cx} {sc : Scope} {fn : Str → Bool} {O : List Nat} {xs : List Expr}, XOk Γ N lv k X sc fn → chkEs Γ N sc fn O es xs = true → AV X k O xs (denEs Γ es)
  | .nil, X, sc, fn, O, xs, hx, h => by
    cases xs with
    | nil => exact av_nil
    | cons _ _ => exact Bool.noConfusion (show false = true from h)
  | .cons e es, X, sc, fn, O, xs, hx, h => by
    cases xs with
    | nil => exact Bool.noConfusion (show false = true from h)
    | cons x xs =>
      have h : (chkE Γ N sc fn O e x && (notStar x && chkEs Γ N sc fn O es xs)) = true := h
      simp only [Bool.and_eq_true] at h
      exact av_cons (soundE e hx h.1) (soundEs es hx h.2.2) (star_cons h.2.1 _ _)
theorem soundO : ∀ (e : Eo) {X : Cx} {sc : Scope} {fn : Str → Bool} {O : List Nat} {x : Option Expr}, XOk Γ N lv k X sc fn → chkO Γ N sc fn O e x = true → OV X k O x (denO Γ e)
  | .none, X, sc, fn, O, x, hx, h => by
    cases x with
    | none => exact ov_none
    | some _ => exact Bool.noConfusion (show false = true from h)
  | .some e, X, sc, fn, O, x, hx, h => by
    cases x with
    | none => exact Bool.noConfusion (show false = true from h)
    | some x => exact ov_some (soundE e hx h)
theorem soundG : ∀ (g : G) {X : Cx} {sc : Scope} {fn : Str → Bool} {O vs : List Nat} {x : Expr}, XOk Γ N lv k X sc fn → chkG Γ N sc fn O vs g x = true → GV X k O x (denG Γ g) vs
  | .name i, X, sc, fn, O, vs, x, hx, h => by
    unfold chkG at h
    split at h
    all_goals (first | contradiction | skip)
    rename_i heq
    cases heq
    simp only [Bool.and_eq_true, decide_eq_true_eq] at h
    obtain ⟨h1, h2, h3, h4⟩ := h
    have hl := hx.loc h2
    exact gv_name (by rw [hx.hN]; exact hx.nd) (by rw [hx.hN]; exact h1) hl.1 hl.2 (mem_not h3) (List.contains_iff_mem.mp h4)
  | .tup gs, X, sc, fn, O, vs, x, hx, h => by
    unfold chkG at h
    split at h
    all_goals (first | contradiction | skip)
    rename_i heq
    cases heq
    exact gv_tup hx.calm (soundGs gs hx h) (gs_len gs h) (gs_star gs h)
theorem soundGs : ∀ (gs : Gs) {X : Cx} {sc : Scope} {fn : Str → Bool} {O vs : List Nat} {xs : List Expr}, XOk Γ N lv k X sc fn → chkGs Γ N sc fn O vs gs xs = true → GVs X k O xs (denGs Γ gs) vs
  | .nil, X, sc, fn, O, vs, xs, hx, h => by
    cases xs with
    | nil => exact gvs_nil
    | cons _ _ => exact Bool.noConfusion (show false = true from h)
  | .cons g gs, X, sc, fn, O, vs, xs, hx, h => by
    cases xs with
    | nil => exact Bool.noConfusion (show false = true from h)
    | cons x xs =>
      have h : (chkG Γ N sc fn O vs g x && chkGs Γ N sc fn O vs gs xs) = true := h
      simp only [Bool.and_eq_true] at h
      exact gvs_cons (soundG g hx h.1) (soundGs gs hx h.2) (by rw [asg_star (g_star h.1)]; rfl)
theorem soundI : ∀ (i : I) {X : Cx} {sc : Scope} {fn : Str → Bool} {O : List Nat} {x tg : Expr}, XOk Γ N lv k X sc fn → chkI Γ N sc fn O i x = true → (match i with | .zip _ _ => isTup tg | _ => true) = true → IV X k O tg x (denI Γ i)
  | .seq e, X, sc, fn, O, x, tg, hx, h, _ => iv_seq (soundE e hx h)
  | .range1 e, X, sc, fn, O, x, tg, hx, h, _ => by
    unfold chkI at h
    split at h
    all_goals (first | contradiction | skip)
    rename_i heq
    cases heq
    simp only [Bool.and_eq_true, decide_eq_true_eq] at h
    obtain ⟨rfl, h1, h2, h3, h4⟩ := h
    exact iv_range1 (hx.gl h1) (hx.blts _ h2) (av_cons (soundE e hx h3) av_nil (star_cons h4 _ _)) (star_cons h4 _ _)
  | .range2 a b, X, sc, fn, O, x, tg, hx, h, _ => by
    unfold chkI at h
    split at h
    all_goals (first | contradiction | skip)
    rename_i heq
    cases heq
    simp only [Bool.and_eq_true, decide_eq_true_eq] at h
    obtain ⟨rfl, h1, h2, h3, h4, h5, h6⟩ := h
    exact iv_range2 (hx.gl h1) (hx.blts _ h2) (av_cons (soundE a hx h3) (av_cons (soundE b hx h5) av_nil (star_cons h6 _ _)) (star_cons h4 _ _)) (by rw [star_cons h4, star_cons h6]; rfl) (star_cons h6 _ _)
  | .zip a b, X, sc, fn, O, x, tg, hx, h, ht => by
    unfold chkI at h
    split at h
    all_goals (first | contradiction | skip)
    rename_i heq
    cases heq
    simp only [Bool.and_eq_true, decide_eq_true_eq] at h
    obtain ⟨rfl, h1, h2, h3, h4, h5, h6⟩ := h
    cases tg with
    | Tuple elts kk tpos => exact iv_zip (hx.gl h1) (hx.blts _ h2) (av_cons (soundE a hx h3) (av_cons (soundE b hx h5) av_nil (star_cons h6 _ _)) (star_cons h4 _ _)) (star_cons h4 _ _) (by rw [star_cons h6]; rfl)
    | _ => exact Bool.noConfusion (show false = true from ht)
end
end
end Rf

namespace Rf
open PySem PySem.Spec PyProof.Rows L2

mutual
inductive C where
  | ret (e : E)
  | iff (t : T) (a b : Cs)
  | set (i : Nat) (e : E)
  | unp (g : G) (e : E)
  | new (i : Nat)
  | app (i : Nat) (e : E)
  | for_ (g : G) (it : I) (body : Cs)
  | pass | brk | cont
inductive Cs where
  | nil
  | cons (c : C) (o : List Nat) (r : Cs)
  | frz (i : Nat) (r : Cs)
end
def without (O : List Nat) (i : Nat) : List Nat := O.filter (· ≠ i)
section
variable (Γ : Tb) (N : List Str)
mutual
def denC : C → FS
  | .ret e => sRet (denE Γ e)
  | .iff t a b => sIf (denT Γ t) (denCs a) (denCs b)
  | .set i e => sSet i (denE Γ e)
  | .unp g e => sUnp (denE Γ e) (denG Γ g)
  | .new i => sNew i
  | .app i e => sApp i (denE Γ e)
  | .for_ g it body => sFor (denI Γ it) (denG Γ g) (denCs body)
  | .pass => sPass
  | .brk => fun env s => some (.bk env s)
  | .cont => fun env s => some (.ct env s)
def denCs : Cs → FS
  | .nil => sNil
  | .cons c _ r => sSeq (denC c) (denCs r)
  | .frz _ r => denCs r
end
mutual
def noJump : C → Bool
  | .brk => false
  | .cont => false
  | .iff _ a b => noJumps a && noJumps b
  | _ => true
def noJumps : Cs → Bool
  | .nil => true
  | .cons c _ r => noJump c && noJumps r
  | .frz _ r => noJumps r
end
def swapB (sc : Scope) (x : Str) (pos : Pos) : Expr → Option Bool
  | .ListComp _ [_] scope p => some (match sc.names.lookup x with | some .local => (pos.line == p.line) && !(scope.names.any fun y => y.1 == x && (y.2 == .local || y.2 == .cell)) | _ => false)
  | .ListComp _ _ _ _ => none
  | .SetComp _ _ _ _ => none
  | .DictComp _ _ _ _ _ => none
  | _ => some false
def isLc : E → Bool
  | .lc _ _ _ _ _ _ => true
  | _ => false
mutual
def chkC (sc : Scope) (fn : Str → Bool) (O O' : List Nat) : C → Stmt → Bool
  | .ret e, .Return (some x) _ => chkE Γ N sc fn O e x
  | .iff t a b, .If c x y _ => chkT Γ N sc fn O t c && (chkCs sc fn O O' a x && chkCs sc fn O O' b y)
  | .set i e, .Assign [.Name x p] ex _ => decide (O' = without O i) && (decide (N[i]? = some x) && (locB sc fn x && (chkE Γ N sc fn O e ex && (match swapB sc x p ex with | some false => true | some true => isLc e | none => false))))
  | .unp g e, .Assign [tg] ex _ => decide (O' = O) && (isTup tg && (chkG Γ N sc fn O (List.range N.length) g tg && (chkE Γ N sc fn O e ex && notTup ex)))
  | .new i, .Assign [.Name x _] (.List [] _) _ => decide (O' = i :: without O i) && (decide (N[i]? = some x) && locB sc fn x)
  | .app i e, .Expr (.Call (.Attribute (.Name x _) m apos) [ex] [] cpos) _ => decide (O' = O) && (decide (m = ("append" : Str)) && (decide (N[i]? = some x) && (visB sc x && (nodb x && (O.contains i && ((apos.endLine == cpos.line) && (chkE Γ N sc fn O e ex && notStar ex)))))))
  | .for_ g it body, .For tg iter bs [] _ => decide (O' = O) && (chkI Γ N sc fn O it iter && (notSet iter && ((match it with | .zip _ _ => isTup tg | _ => true) && (chkG Γ N sc fn O (List.range N.length) g tg && chkCs sc fn O O body bs))))
  | .pass, .Pass _ => decide (O' = O)
  | .brk, .Break _ => decide (O' = O)
  | .cont, .Continue _ => decide (O' = O)
  | _, _ => false
def chkCs (sc : Scope) (fn : Str → Bool) (O O' : List Nat) : Cs → List Stmt → Bool
  | .nil, [] => decide (O' = O)
  | .cons c o r, st :: sts => chkC sc fn O o c st && (chkCs sc fn o O' r sts && (noJump c || (decide (O = o) && decide (o = O'))))
  | .frz i r, sts => chkCs sc fn (without O i) O' r sts
  | _, _ => false
end
end

section
variable {Γ : Tb} {N : List Str} {lv : Nat} {k : Dk}
theorem loop_jump {fg : FG} {fb : FS} : ∀ {ds : List PyData} {env : EnvD} {s : S} {e1 : EnvD} {s1 : S}, forLoop fg fb ds env s ≠ some (.bk e1 s1) ∧ forLoop fg fb ds env s ≠ some (.ct e1 s1)
  | [], env, s, e1, s1 => ⟨fun h => (by cases h), fun h => (by cases h)⟩
  | p :: ps, env, s, e1, s1 => by
    unfold forLoop
    cases e2 : fg env p with
    | none => exact ⟨fun h => (by cases h), fun h => (by cases h)⟩
    | some en =>
    simp only [Option.bind_some]
    cases e3 : fb en s with
    | none => exact ⟨fun h => (by cases h), fun h => (by cases h)⟩
    | some o =>
    simp only [Option.bind_some]
    cases o with
    | nx e4 s4 => exact loop_jump
    | ct e4 s4 => exact loop_jump
    | bk e4 s4 => exact ⟨fun h => (by cases h), fun h => (by cases h)⟩
    | rt d s4 => exact ⟨fun h => (by cases h), fun h => (by cases h)⟩
mutual
theorem jumpC : ∀ (c : C), noJump c = true → ∀ {env : EnvD} {s : S} {e1 : EnvD} {s1 : S}, denC Γ c env s ≠ some (.bk e1 s1) ∧ denC Γ c env s ≠ some (.ct e1 s1)
  | .ret e, _, env, s, e1, s1 => by
    show sRet (denE Γ e) env s ≠ _ ∧ sRet (denE Γ e) env s ≠ _
    unfold sRet
    cases denE Γ e env s <;> exact ⟨fun h => (by cases h), fun h => (by cases h)⟩
  | .iff t a b, h, env, s, e1, s1 => by
    have h : (noJumps a && noJumps b) = true := h
    simp only [Bool.and_eq_true] at h
    show sIf (denT Γ t) (denCs Γ a) (denCs Γ b) env s ≠ _ ∧ sIf (denT Γ t) (denCs Γ a) (denCs Γ b) env s ≠ _
    unfold sIf
    cases denT Γ t env s with
    | none => exact ⟨fun h => (by cases h), fun h => (by cases h)⟩
    | some p =>
      simp only [Option.bind_some]
      split
      · exact jumpCs a h.1
      · exact jumpCs b h.2
  | .set i e, _, env, s, e1, s1 => by
    show sSet i (denE Γ e) env s ≠ _ ∧ sSet i (denE Γ e) env s ≠ _
    unfold sSet
    cases denE Γ e env s <;> exact ⟨fun h => (by cases h), fun h => (by cases h)⟩
  | .unp g e, _, env, s, e1, s1 => by
    show sUnp (denE Γ e) (denG Γ g) env s ≠ _ ∧ sUnp (denE Γ e) (denG Γ g) env s ≠ _
    unfold sUnp
    cases denE Γ e env s with
    | none => exact ⟨fun h => (by cases h), fun h => (by cases h)⟩
    | some p =>
      simp only [Option.bind_some]
      split
      · rename_i q _
        cases denG Γ g env q <;> exact ⟨fun h => (by cases h), fun h => (by cases h)⟩
      · exact ⟨fun h => (by cases h), fun h => (by cases h)⟩
  | .new i, _, env, s, e1, s1 => ⟨fun h => (by cases h), fun h => (by cases h)⟩
  | .app i e, _, env, s, e1, s1 => by
    show sApp i (denE Γ e) env s ≠ _ ∧ sApp i (denE Γ e) env s ≠ _
    unfold sApp
    cases denE Γ e env s with
    | none => exact ⟨fun h => (by cases h), fun h => (by cases h)⟩
    | some p =>
      simp only [Option.bind_some]
      split
      · split <;> exact ⟨fun h => (by cases h), fun h => (by cases h)⟩
      · exact ⟨fun h => (by cases h), fun h => (by cases h)⟩
  | .for_ g it body, _, env, s, e1, s1 => by
    show sFor (denI Γ it) (denG Γ g) (denCs Γ body) env s ≠ _ ∧ sFor (denI Γ it) (denG Γ g) (denCs Γ body) env s ≠ _
    unfold sFor
    cases denI Γ it env s with
    | none => exact ⟨fun h => (by cases h), fun h => (by cases h)⟩
    | some p => exact loop_jump
  | .pass, _, env, s, e1, s1 => ⟨fun h => (by cases h), fun h => (by cases h)⟩
  | .brk, h, env, s, e1, s1 => Bool.noConfusion (show false = true from h)
  | .cont, h, env, s, e1, s1 => Bool.noConfusion (show false = true from h)
theorem jumpCs : ∀ (c : Cs), noJumps c = true → ∀ {env : EnvD} {s : S} {e1 : EnvD} {s1 : S}, denCs Γ c env s ≠ some (.bk e1 s1) ∧ denCs Γ c env s ≠ some (.ct e1 s1)
  | .nil, _, env, s, e1, s1 => ⟨fun h => (by cases h), fun h => (by cases h)⟩
  | .cons c o r, h, env, s, e1, s1 => by
    have h : (noJump c && noJumps r) = true := h
    simp only [Bool.and_eq_true] at h
    show sSeq (denC Γ c) (denCs Γ r) env s ≠ _ ∧ sSeq (denC Γ c) (denCs Γ r) env s ≠ _
    unfold sSeq
    cases e : denC Γ c env s with
    | none => exact ⟨fun h => (by cases h), fun h => (by cases h)⟩
    | some o =>
      simp only [Option.bind_some]
      cases o with
      | nx en s2 => exact jumpCs r h.2
      | rt d s2 => exact ⟨fun h => (by cases h), fun h => (by cases h)⟩
      | bk en s2 => exact absurd e (jumpC c h.1).1
      | ct en s2 => exact absurd e (jumpC c h.1).2
  | .frz i r, h, env, s, e1, s1 => jumpCs r h
end

theorem swap_no {sc : Scope} {x : Str} {p spos : Pos} {ex : Expr} {env : Env} (hs : env.scope = sc) (hk : sc.kind = .function) (h : swapB sc x p ex = some false) : swapsWith ex (some (.Name x p)) spos.line env = pure false := by
  cases ex with
  | ListComp elt gens scope p2 =>
    have hb : env.blockKind = .function := by unfold Env.blockKind; rw [hs, hk]; rfl
    cases gens with
    | nil => cases h
    | cons g r =>
      cases r with
      | cons _ _ => cases h
      | nil =>
        have h : (match sc.names.lookup x with | some .local => (p.line == p2.line) && !(scope.names.any fun y => y.1 == x && (y.2 == .local || y.2 == .cell)) | _ => false) = false := Option.some.inj h
        unfold swapsWith
        simp only [hb, Env.kindOf, hs, Expr.pos]
        cases e : sc.names.lookup x with
        | none => rfl
        | some kk =>
          rw [e] at h
          cases kk with
          | «local» =>
            simp only at h
            show (pure ((true && true) && (p.line == p2.line) && !(scope.names.any fun y => y.1 == x && (y.2 == .local || y.2 == .cell))) : Sem Bool) = pure false
            rw [show (((true && true) && (p.line == p2.line)) && !(scope.names.any fun y => y.1 == x && (y.2 == .local || y.2 == .cell))) = false by simpa using h]
          | _ => rfl
  | SetComp _ _ _ _ => cases h
  | DictComp _ _ _ _ _ => cases h
  | _ => rfl
theorem swap_sole {ts : List Expr} {kk : Nat} {p spos : Pos} {ex : Expr} {env : Env} : swapsWithSole [.Tuple ts kk p] ex spos.line env = pure false := by
  cases ex <;> rfl
theorem swap_stores {tg ex : Expr} {env : Env} (h : notTup ex = true) : swappedStores [tg] ex env = pure none := by
  cases tg <;> (cases ex <;> first | rfl | exact Bool.noConfusion (show false = true from h))
theorem mem_yes {O : List Nat} {i : Nat} (h : O.contains i = true) : i ∈ O := List.contains_iff_mem.mp h

mutual
theorem soundC : ∀ (c : C) {X : Cx} {sc : Scope} {fn : Str → Bool} {O O' : List Nat} {st : Stmt}, XOk Γ N lv k X sc fn → PassesOwn (model X.prog X.w) X.A X.env X.xe → chkC Γ N sc fn O O' c st = true → SV X k O st O' (denC Γ c)
  | .ret e, X, sc, fn, O, O', st, hx, hp, h => by
    unfold chkC at h
    split at h
    all_goals (first | contradiction | skip)
    rename_i heq
    cases heq
    exact sv_ret (soundE e hx h)
  | .iff t a b, X, sc, fn, O, O', st, hx, hp, h => by
    unfold chkC at h
    split at h
    all_goals (first | contradiction | skip)
    rename_i heq
    cases heq
    simp only [Bool.and_eq_true] at h
    exact sv_if (soundT t hx h.1) (soundCs a hx hp h.2.1) (soundCs b hx hp h.2.2)
  | .set i e, X, sc, fn, O, O', st, hx, hp, h => by
    unfold chkC at h
    split at h
    all_goals (first | contradiction | skip)
    rename_i heq
    cases heq
    rename_i x p ex pos
    simp only [Bool.and_eq_true, decide_eq_true_eq] at h
    obtain ⟨rfl, h1, h2, h3, h4⟩ := h
    have hl := hx.loc h2
    have hn : X.N[i]? = some x := by rw [hx.hN]; exact h1
    have nd : X.N.Nodup := by rw [hx.hN]; exact hx.nd
    cases e5 : swapB sc x p ex with
    | none => rw [e5] at h4; cases h4
    | some bb =>
    rw [e5] at h4
    cases bb with
    | false => exact sv_set nd hn hl.1 (soundE e hx h3) (swap_no hx.hsc hx.kind e5) hl.2
    | true =>
      cases e with
      | lc O1 vs g it ifs elt =>
        unfold chkE at h3
        split at h3
        all_goals (first | contradiction | skip)
        rename_i heq
        cases heq
        rename_i elt' tg iter ifs' as scope p2
        simp only [Bool.and_eq_true, decide_eq_true_eq] at h3
        obtain ⟨rfl, rfl, g1, g2, g3, g4, g5, g6, g7⟩ := h3
        have ok := blkOk_by g1
        have hk := ok.kind
        have hd : denE Γ (.lc O1 vs g it ifs elt) = fLc O1 ((ownOf N vs).map (·.2)) (denI Γ it) (denG Γ g) (denTo Γ ifs) (denE Γ elt) := by
          rw [ownOf_snd]
          rfl
        show SV X k O1 _ _ (sSet i (denE Γ (.lc O1 vs g it ifs elt)))
        rw [hd]
        have e6 : (match sc.names.lookup x with | some .local => (p.line == p2.line) && !(scope.names.any fun y => y.1 == x && (y.2 == .local || y.2 == .cell)) | _ => false) = true := Option.some.inj e5
        cases e7 : sc.names.lookup x with
        | none => rw [e7] at e6; cases e6
        | some kk =>
        rw [e7] at e6
        cases kk with
        | «local» =>
          simp only [Bool.and_eq_true, Bool.not_eq_true'] at e6
          have hloc : X.env.scope.names.lookup x = some .local := by rw [hx.hsc]; exact e7
          exact sv_setLc (own := ownOf N vs) hx.calm nd hn hloc (sw_true (by rw [hx.hsc]; exact hx.kind) hloc e6.1 e6.2) (soundI it hx g2 g4) (by rw [hx.hN, hx.hsc]; exact ok)
            (fun s H C cl fp => by rw [ownOf_snd]; exact soundG g (hx.blk hk) g5) (fun s H C cl fp => soundTo ifs (hx.blk hk) g6) (fun s H C cl fp => soundE elt (hx.blk hk) g7) (set_folded g3)
        | cell => cases e6
        | free => cases e6
        | globalExplicit => cases e6
        | globalImplicit => cases e6
      | _ => exact Bool.noConfusion (show false = true from h4)
  | .unp g e, X, sc, fn, O, O', st, hx, hp, h => by
    unfold chkC at h
    split at h
    all_goals (first | contradiction | skip)
    rename_i heq
    cases heq
    rename_i tg ex pos
    simp only [Bool.and_eq_true, decide_eq_true_eq] at h
    obtain ⟨rfl, h1, h2, h3, h4⟩ := h
    cases tg with
    | Tuple ts kk p => exact sv_unp (soundE e hx h3) (soundG g hx h2) swap_sole (swap_stores h4) rfl
    | _ => exact Bool.noConfusion (show false = true from h1)
  | .new i, X, sc, fn, O, O', st, hx, hp, h => by
    unfold chkC at h
    split at h
    all_goals (first | contradiction | skip)
    rename_i heq
    cases heq
    simp only [Bool.and_eq_true, decide_eq_true_eq] at h
    obtain ⟨rfl, h1, h2⟩ := h
    have hl := hx.loc h2
    exact sv_new (by rw [hx.hN]; exact hx.nd) (by rw [hx.hN]; exact h1) hl.1 hl.2
  | .app i e, X, sc, fn, O, O', st, hx, hp, h => by
    unfold chkC at h
    split at h
    all_goals (first | contradiction | skip)
    rename_i heq
    cases heq
    simp only [Bool.and_eq_true, decide_eq_true_eq] at h
    obtain ⟨rfl, rfl, h1, h2, h3, h4, h5, h6, h7⟩ := h
    exact sv_app (by rw [hx.hN]; exact h1) (hx.vis h2) (mem_yes h4) (nodb_ok h3).1 (nodb_ok h3).2 (soundE e hx h6) (star_cons h7 _ _) h5
  | .for_ g it body, X, sc, fn, O, O', st, hx, hp, h => by
    unfold chkC at h
    split at h
    all_goals (first | contradiction | skip)
    rename_i heq
    cases heq
    simp only [Bool.and_eq_true, decide_eq_true_eq] at h
    obtain ⟨rfl, h1, h2, h3, h4, h5⟩ := h
    exact sv_for hp hx.calm (soundI it hx h1 h3) (soundG g hx h4) (soundCs body hx hp h5) (set_folded h2)
  | .pass, X, sc, fn, O, O', st, hx, hp, h => by
    unfold chkC at h
    split at h
    all_goals (first | contradiction | skip)
    have h := of_decide_eq_true h
    subst h
    exact sv_pass
  | .brk, X, sc, fn, O, O', st, hx, hp, h => by
    unfold chkC at h
    split at h
    all_goals (first | contradiction | skip)
    have h := of_decide_eq_true h
    subst h
    exact sv_break
  | .cont, X, sc, fn, O, O', st, hx, hp, h => by
    unfold chkC at h
    split at h
    all_goals (first | contradiction | skip)
    have h := of_decide_eq_true h
    subst h
    exact sv_continue
theorem soundCs : ∀ (c : Cs) {X : Cx} {sc : Scope} {fn : Str → Bool} {O O' : List Nat} {sts : List Stmt}, XOk Γ N lv k X sc fn → PassesOwn (model X.prog X.w) X.A X.env X.xe → chkCs Γ N sc fn O O' c sts = true → SVs X k O sts O' (denCs Γ c)
  | .nil, X, sc, fn, O, O', sts, hx, hp, h => by
    unfold chkCs at h
    split at h
    all_goals (first | contradiction | skip)
    have h := of_decide_eq_true h
    subst h
    exact svs_nil
  | .cons c o r, X, sc, fn, O, O', sts, hx, hp, h => by
    unfold chkCs at h
    split at h
    all_goals (first | contradiction | skip)
    rename_i heq
    cases heq
    simp only [Bool.and_eq_true, Bool.or_eq_true, decide_eq_true_eq] at h
    obtain ⟨h1, h2, h3⟩ := h
    rcases h3 with h3 | ⟨rfl, rfl⟩
    · exact svs_cons (soundC c hx hp h1) (soundCs r hx hp h2) (fun env s e1 s1 => (jumpC c h3).1) (fun env s e1 s1 => (jumpC c h3).2)
    · exact svs_cons' (soundC c hx hp h1) (soundCs r hx hp h2)
  | .frz i r, X, sc, fn, O, O', sts, hx, hp, h => svs_frz i (soundCs r hx hp h)
end
end

/-! ### a def by its term -/
section
variable {P : Program} {w : World} {K : PySem.W.Frag} {mg : Str → Option Value} {base : Heap} {k : Dk}
/-- what a def's text wants of the tables -/
structure TOk (P : Program) (w : World) (K : PySem.W.Frag) (mg : Str → Option Value) (base : Heap) (k : Dk) (lv : Nat) (Γ : Tb) : Prop where
  fns : ∀ (j : Nat) x n g, Γ.fns[j]? = some (x, n, g) → ∃ fa fd ps, FnOk P w K mg base CX0 lv fa fd ps (spOf K k n g) ∧ mg x = some (.ref fa) ∧ PySem.W.keepIn K (.ref fa) = true ∧ Binds K fd ps []
  csts : ∀ (j : Nat) x p, Γ.csts[j]? = some (x, p) → ∃ v u, mg x = some u ∧ RelV v u ∧ Rp K (fun _ => False) (fun _ => none) p v
  blts : ∀ x, x ∈ Γ.blts → mg x = none
theorem fn_term {x qual : Str} {st : Stmt} {f : Addr} {fd : FuncData} {N ps : List Str} {lv : Nat} {Γ : Tb} {O' : List Nat} {c : Cs} (Fn : Fun K x qual st f fd) (Sc : FnScope N ps (defScope st)) (ht : TOk P w K mg base k lv Γ)
    (hc : chkCs Γ N (defScope st) (fun _ => true) [] O' c (defBody st) = true) :
    FnOk P w K mg base CX0 (lv + 1) f fd ps (spOf K k ps.length (fnDen N.length (denCs Γ c))) := by
  refine fn_data (O' := O') Fn Sc fun cdv A outer s H E hr => ?_
  refine soundCs c ⟨rfl, Sc.nd, rfl, Sc.kind, fun _ _ => rfl, rfl, hr, ht.fns, ht.csts, ht.blts⟩ PassesOwn.never hc
end
end Rf

namespace Rf
open PySem PySem.Spec PyProof.Rows L2

theorem ifT {c : Prop} [Decidable c] {A B : Prop} (h : c) (a : A) : if c then A else B := by
  rw [if_pos h]
  exact a
theorem ifF {c : Prop} [Decidable c] {A B : Prop} (h : ¬c) (b : B) : if c then A else B := by
  rw [if_neg h]
  exact b
def absI (i : Int) : Int := if i < 0 then -i else i
/-- the promise of the def that makes the deck -/
def spDeck (K : PySem.W.Frag) : Sp := fun vs H Q _ => ∃ (a : Addr) (ns : List Int), vs = [.ref a] ∧ SqL K H a (ns.map V.int) ∧ ns.length ≤ 63 ∧
  ∀ p q H', Same H H' → p ≠ q → H p = none → H q = none → H' p = some (.lst [.ref q, .int 0]) → H' q = some (.lst ((ns.map absI).map V.int)) → Q (.ref p) H'
/-- a draw -/
def drawS (m : Int) (s : S) : Option (D × S) :=
  if (decide (0 < m) && decide (m < 1073741824)) && (decide (0 ≤ s.2) && decide (s.2 < 1099511627776)) then
    match s.1[((s.2 + 1) % s.1.length).toNat]? with
    | some c => if c ≥ 1000000000000000000 then some (.py (.int (c % m)), (s.1.set ((s.2 + 1) % s.1.length).toNat (c / m), s.2 + 1))
        else some (.py (.int ((c % 2147483587 + 7919 * (s.2 + 1) + 1) ^ 5 % 2147483647 % m)), (s.1, s.2 + 1))
    | none => some (.py (.int ((7919 * (s.2 + 1) + 1) ^ 5 % 2147483647 % m)), (s.1, s.2 + 1))
  else none
def drawG : FN := fun ds s => match ds with
  | [.deck, .py (.int m)] => drawS m s
  | _ => none
/-- what a draw gives -/
theorem drawS_ok {m : Int} {s : S} (hm : 0 < m) (hm2 : m < 1073741824) (h0 : 0 ≤ s.2) (h1 : s.2 < 1099511627776) : ∃ r s', drawS m s = some (.py (.int r), s') ∧ 0 ≤ r ∧ r < m ∧ s'.2 = s.2 + 1 := by
  unfold drawS
  rw [if_pos (by simp [hm, hm2, h0, h1])]
  split
  · split
    · exact ⟨_, _, rfl, Int.emod_nonneg _ (by omega), Int.emod_lt_of_pos _ hm, rfl⟩
    · exact ⟨_, _, rfl, Int.emod_nonneg _ (by omega), Int.emod_lt_of_pos _ hm, rfl⟩
  · exact ⟨_, _, rfl, Int.emod_nonneg _ (by omega), Int.emod_lt_of_pos _ hm, rfl⟩

def spLaw (K : PySem.W.Frag) : Sp := fun vs H Q _ => ∃ (a : Addr) (ns : List Int), vs = [.ref a] ∧ SqL K H a (ns.map V.int) ∧ ns.length ≤ 63 ∧ ∀ H', Q (.bl true) H'
/-- the reading of a block, whatever the deck -/
def tAny (K : PySem.W.Frag) (O O' : List Nat) (f : FS) : TS := fun D σ H => ∃ k F0 H0 F env s out, Good K k F0 H0 F H σ O env s ∧ f env s = some out ∧ Meet K k F0 H0 F H O' D out
theorem pss_any {X : Cx} {O O' : List Nat} {sts : List Stmt} {f : FS} (h : ∀ k, SVs X k O sts O' f) : PSs X sts (tAny X.K O O' f) := by
  refine ⟨fun pins s σ H D I ⟨k, F0, H0, F, env, s1, out, G, e, m⟩ => ?_⟩
  obtain ⟨t, p, q⟩ := h k
  exact p.run pins s σ H D I (q F0 H0 F H σ env s1 out D G e m)
section
variable {P : Program} {w : World} {K : PySem.W.Frag} {mg : Str → Option Value} {base : Heap}
theorem law_ok {st : Stmt} {f fdk : Addr} {fd fdd : FuncData} {N : List Str} {lv : Nat} {x qual y dx z : Str} {p1 p2 p3 p4 p5 : Pos} {rest : List Stmt} {O' : List Nat} {fb : FS} (Fn : Fun K x qual st f fd) (Sc : FnScope N [z] (defScope st))
    (hb : defBody st = .Assign [.Name y p1] (.Call (.Name dx p2) [.Name z p3] [] p4) p5 :: rest) (h0 : N[0]? = some z) (h1 : N[1]? = some y) (hv : Vis (defScope st) z) (hl : Loc (defScope st) y) (hg : (defScope st).names.lookup dx = some .globalImplicit)
    (n1 : nodb z = true) (n2 : nodb dx = true) (Gd : FnOk P w K mg base CX0 lv fdk fdd [z] (spDeck K)) (md : mg dx = some (.ref fdk)) (kd : PySem.W.keepIn K (.ref fdk) = true) (bd : Binds K fdd [z] [])
    (hrest : ∀ (k : Dk) (cdv : Value) (A : Around) (outer : List Env) (s : Shared) (H : Hp) (E : XK), Room lv (A.deeper (envOfC qual (defScope st) s.heap.objs.size f cdv)) → SVs (cxOf CX0 P w K mg base N qual (defScope st) f cdv A outer s H E).nox k [] rest O' fb)
    (hval : ∀ ns : List Int, ns.length ≤ 63 → ∃ s', fb (none :: some .deck :: List.replicate (N.length - 2) none) (ns.map absI, 0) = some (.rt (.py (.bool true)) s')) :
    FnOk P w K mg base CX0 (lv + 1) f fd [z] (spLaw K) := by
  refine Fn.ok Sc (fun vs H Q E h => ?_) (fun cdv A outer s H vs Q E hr h => ?_)
  · obtain ⟨a, ns, rfl, _⟩ := h
    rfl
  · obtain ⟨a, ns, rfl, hS, hlen, q⟩ := h
    rw [hb]
    have pr := pss_any fun k => hrest k cdv A outer s H E hr
    refine ⟨_, pss_cons (ps_set (i := 1) Sc.nd h1 hl (pe_call (E := fun _ _ _ => False) Gd hr hg md kd bd .nil pass0 (pa_cons (pe_var h0 hv (nodb_ok n1).1 (nodb_ok n1).2) pa_nil) (nodb_ok n2).1) rfl (.inl rfl)) pr, ?_⟩
    have hN : 2 ≤ N.length := by
      have := (List.getElem?_eq_some_iff.mp h1).1
      omega
    obtain ⟨m, hm⟩ : ∃ m, N.length = m + 2 := ⟨N.length - 2, by omega⟩
    have es : L2.start N [.ref a] = some (.ref a) :: none :: List.replicate m none := by
      unfold L2.start
      rw [hm]
      rfl
    refine ⟨.ref a, by rw [es]; rfl, a, ns, rfl, hS, hlen, fun p q' H' sm ne hp hq e1 e2 => ?_⟩
    obtain ⟨s', hv'⟩ := hval ns hlen
    rw [show N.length - 2 = m by omega] at hv'
    have ok : Ok ⟨p, q'⟩ (fun _ => False) H' (ns.map absI, 0) := ⟨fun _ z => z.elim, ne, fun z => z, fun z => z, e1, e2, by rw [List.length_map]; exact hlen⟩
    refine ⟨⟨p, q'⟩, fun _ => False, H', fun _ => False, _, _, _, ⟨ok, .refl, by rw [e1]; exact (fun z => nomatch z), by rw [e2]; exact (fun z => nomatch z), ?_, fun i d g1 g2 => ?_, fun i d _ z => absurd z (by simp), fun i j d d' p z => absurd z (by simp)⟩, hv', fun F1 H1 v st1 ok1 r1 => ?_⟩
    · rw [es]
      simp
    · rw [es]
      cases i with
      | zero => cases g1
      | succ i =>
        cases i with
        | zero =>
          cases g1
          exact ⟨.ref p, rfl, rfl⟩
        | succ i =>
          simp only [List.getElem?_cons_succ] at g1
          rw [List.getElem?_replicate] at g1
          split at g1 <;> cases g1
    · cases r1
      exact q H1
end
/-! ### tables, entry by entry -/
section
variable {P : Program} {w : World} {K : PySem.W.Frag} {mg : Str → Option Value} {base : Heap} {k : Dk} {lv : Nat}
def FnsOk (P : Program) (w : World) (K : PySem.W.Frag) (mg : Str → Option Value) (base : Heap) (k : Dk) (lv : Nat) (l : List (Str × Nat × FN)) : Prop :=
  ∀ (j : Nat) x n g, l[j]? = some (x, n, g) → ∃ fa fd ps, FnOk P w K mg base CX0 lv fa fd ps (spOf K k n g) ∧ mg x = some (.ref fa) ∧ PySem.W.keepIn K (.ref fa) = true ∧ Binds K fd ps []
theorem FnsOk.nil : FnsOk P w K mg base k lv [] := fun j x n g h => by simp at h
theorem FnsOk.cons {x : Str} {n : Nat} {g : FN} {l : List (Str × Nat × FN)} {fa : Addr} {fd : FuncData} {ps : List Str} (h1 : FnOk P w K mg base CX0 lv fa fd ps (spOf K k n g)) (h2 : mg x = some (.ref fa)) (h3 : PySem.W.keepIn K (.ref fa) = true) (h4 : Binds K fd ps []) (t : FnsOk P w K mg base k lv l) : FnsOk P w K mg base k lv ((x, n, g) :: l) := fun j x' n' g' h => by
  cases j with
  | zero => cases h; exact ⟨fa, fd, ps, h1, h2, h3, h4⟩
  | succ j => exact t j x' n' g' (by simpa using h)
def CstsOk (K : PySem.W.Frag) (mg : Str → Option Value) (l : List (Str × PyData)) : Prop := ∀ (j : Nat) x p, l[j]? = some (x, p) → ∃ v u, mg x = some u ∧ RelV v u ∧ Rp K (fun _ => False) (fun _ => none) p v
theorem CstsOk.nil : CstsOk K mg [] := fun j x p h => by simp at h
theorem CstsOk.cons {x : Str} {p : PyData} {l : List (Str × PyData)} (h : ∃ v u, mg x = some u ∧ RelV v u ∧ Rp K (fun _ => False) (fun _ => none) p v) (t : CstsOk K mg l) : CstsOk K mg ((x, p) :: l) := fun j x' p' e => by
  cases j with
  | zero => cases e; exact h
  | succ j => exact t j x' p' (by simpa using e)
def BltsOk (mg : Str → Option Value) (l : List Str) : Prop := ∀ x, x ∈ l → mg x = none
theorem BltsOk.nil : BltsOk mg [] := fun x h => absurd h (by simp)
theorem BltsOk.cons {x : Str} {l : List Str} (h : mg x = none) (t : BltsOk mg l) : BltsOk mg (x :: l) := fun y hy => by
  rcases List.mem_cons.mp hy with e | e
  · rw [e]; exact h
  · exact t y e
/-- a def that means nothing yet -/
theorem fn_none {f : Addr} {fd : FuncData} {ps : List Str} (hf : FnOk P w K mg base CX0 lv f fd ps (fun _ _ _ _ => False)) {n : Nat} : FnOk P w K mg base CX0 lv f fd ps (spOf K k n (fun _ _ => none)) :=
  hf.imp fun vs H Q E h => by
    obtain ⟨_, F, ds, s, d, s', _, _, e, _⟩ := h
    cases e
theorem fn_false {x qual : Str} {st : Stmt} {f : Addr} {fd : FuncData} {N ps : List Str} (Fn : Fun K x qual st f fd) (Sc : FnScope N ps (defScope st)) : FnOk P w K mg base CX0 (lv + 1) f fd ps (fun _ _ _ _ => False) :=
  Fn.ok Sc (fun _ _ _ _ h => h.elim) (fun _ _ _ _ _ _ _ _ _ h => h.elim)
end
/-! ### a constant of the top, read off the written part -/
mutual
def readB (K : PySem.W.Frag) : PyData → Value → Bool
  | .none, .none => true
  | .bool b, .bool a => decide (a = b)
  | .int j, .int i _ => decide (i = j)
  | .str y, .str x _ => decide (x = y)
  | .tuple ds, .ref a => match K.lookup a with
    | some o => match o.cls, o.data with
      | .type t, .seq its _ => decide (t = "tuple") && (decide (its.size ≤ 16777216) && readBs K ds its.toList)
      | _, _ => false
    | none => false
  | _, _ => false
def readBs (K : PySem.W.Frag) : List PyData → List Value → Bool
  | [], [] => true
  | d :: ds, v :: vs => readB K d v && readBs K ds vs
  | _, _ => false
end
section
variable {K : PySem.W.Frag} {F : Fz} {H : Hp}
mutual
theorem readB_ok : ∀ (p : PyData) (u : Value), readB K p u = true → ∃ v, RelV v u ∧ Rp K F H p v
  | .none, u, h => by
    cases u with
    | none => exact ⟨.non, rfl, .non⟩
    | _ => exact Bool.noConfusion (show false = true from h)
  | .bool b, u, h => by
    cases u with
    | bool a =>
      have h : a = b := of_decide_eq_true h
      subst h
      exact ⟨.bl a, rfl, .bl a⟩
    | _ => exact Bool.noConfusion (show false = true from h)
  | .int j, u, h => by
    cases u with
    | int i t =>
      have h : i = j := of_decide_eq_true h
      subst h
      exact ⟨.int i, ⟨t, rfl⟩, .int i⟩
    | _ => exact Bool.noConfusion (show false = true from h)
  | .str j, u, h => by
    cases u with
    | str i t =>
      have h : i = j := of_decide_eq_true h
      subst h
      exact ⟨.str i, ⟨t, rfl⟩, .str i⟩
    | _ => exact Bool.noConfusion (show false = true from h)
  | .list ds, u, h => by
    cases u <;> exact Bool.noConfusion (show false = true from h)
  | .dict ds, u, h => by
    cases u <;> exact Bool.noConfusion (show false = true from h)
  | .tuple ds, u, h => by
    cases u with
    | ref a =>
      unfold readB at h
      split at h
      · rename_i o ho
        split at h
        · rename_i t its n hc hd
          simp only [Bool.and_eq_true, decide_eq_true_eq] at h
          obtain ⟨rfl, h2, h3⟩ := h
          obtain ⟨vs, r1, r2⟩ := readBs_ok ds its.toList h3
          exact ⟨.ref a, rfl, .tup (.inr (.inr ⟨o, its, n, ho, hc, hd, by rw [sizeLine_eq]; exact h2, r1⟩)) r2⟩
        · cases h
      · cases h
    | _ => exact Bool.noConfusion (show false = true from h)
theorem readBs_ok : ∀ (ps : List PyData) (us : List Value), readBs K ps us = true → ∃ vs, Vals vs us ∧ Rps K F H ps vs
  | [], us, h => by
    cases us with
    | nil => exact ⟨[], .nil, .nil⟩
    | cons _ _ => exact Bool.noConfusion (show false = true from h)
  | p :: ps, us, h => by
    cases us with
    | nil => exact Bool.noConfusion (show false = true from h)
    | cons u us =>
      have h : (readB K p u && readBs K ps us) = true := h
      simp only [Bool.and_eq_true] at h
      obtain ⟨v, r1, r2⟩ := readB_ok p u h.1
      obtain ⟨vs, r3, r4⟩ := readBs_ok ps us h.2
      exact ⟨v :: vs, .cons r1 r3, .cons r2 r4⟩
end
theorem cst_ok {mg : Str → Option Value} {x : Str} {p : PyData} {u : Value} (hm : mg x = some u) (h : readB K p u = true) : ∃ v u, mg x = some u ∧ RelV v u ∧ Rp K (fun _ => False) (fun _ => none) p v := by
  obtain ⟨v, r1, r2⟩ := readB_ok (F := fun _ => False) (H := fun _ => none) p u h
  exact ⟨v, u, hm, r1, r2⟩
end
/-! ### running a term step by step -/
section
variable {Γ : Tb} {env e1 : EnvD} {s s1 : S}
def dropC : Nat → Cs → Cs
  | 0, c => c
  | n + 1, .cons _ _ r => dropC n r
  | n + 1, .frz _ r => dropC n r
  | _ + 1, .nil => .nil
/-- n statements that go on -/
def steps (Γ : Tb) : Nat → Cs → EnvD → S → Option (EnvD × S)
  | 0, _, e, s => some (e, s)
  | n + 1, .cons c _ r, e, s => match denC Γ c e s with
    | some (.nx e1 s1) => steps Γ n r e1 s1
    | _ => none
  | n + 1, .frz _ r, e, s => steps Γ n r e s
  | _ + 1, .nil, _, _ => none
theorem steps_ok : ∀ (n : Nat) {c : Cs} {env e1 : EnvD} {s s1 : S}, steps Γ n c env s = some (e1, s1) → denCs Γ c env s = denCs Γ (dropC n c) e1 s1
  | 0, c, env, e1, s, s1, h => by
    cases h
    rfl
  | n + 1, .cons c o r, env, e1, s, s1, h => by
    unfold steps at h
    split at h
    · rename_i e2 s2 hc
      show sSeq (denC Γ c) (denCs Γ r) env s = denCs Γ (dropC n r) e1 s1
      unfold sSeq
      rw [hc]
      exact steps_ok n h
    · cases h
  | n + 1, .frz i r, env, e1, s, s1, h => steps_ok n (c := r) h
  | n + 1, .nil, env, e1, s, s1, h => by cases h
theorem cons_nx {c : C} {o : List Nat} {r : Cs} (h : denC Γ c env s = some (.nx e1 s1)) : denCs Γ (.cons c o r) env s = denCs Γ r e1 s1 := by
  show sSeq (denC Γ c) (denCs Γ r) env s = _
  unfold sSeq
  rw [h]
  rfl
theorem cons_rt {c : C} {o : List Nat} {r : Cs} {d : D} (h : denC Γ c env s = some (.rt d s1)) : denCs Γ (.cons c o r) env s = some (.rt d s1) := by
  show sSeq (denC Γ c) (denCs Γ r) env s = _
  unfold sSeq
  rw [h]
  rfl
theorem ifc_true {t : T} {a b : Cs} (h : denT Γ t env s = some (true, s1)) : denC Γ (.iff t a b) env s = denCs Γ a env s1 := by
  show sIf (denT Γ t) (denCs Γ a) (denCs Γ b) env s = _
  unfold sIf
  rw [h]
  rfl
theorem ifc_false {t : T} {a b : Cs} (h : denT Γ t env s = some (false, s1)) : denC Γ (.iff t a b) env s = denCs Γ b env s1 := by
  show sIf (denT Γ t) (denCs Γ a) (denCs Γ b) env s = _
  unfold sIf
  rw [h]
  rfl
theorem fn_val {j : Nat} {es : Es} {x : Str} {n : Nat} {g : FN} {ds : List D} {r : Option (D × S)} (hj : Γ.fns[j]? = some (x, n, g)) (ha : denEs Γ es env s = some (ds, s1)) (hl : ds.length = n) (hg : g ds s1 = r) : denE Γ (.fn j es) env s = r := by
  show (match Γ.fns[j]? with | some (_, n, g) => fFn n g (denEs Γ es) | none => fun _ _ => none) env s = r
  rw [hj]
  show fFn n g (denEs Γ es) env s = r
  unfold fFn
  rw [ha]
  simp only [Option.bind_some]
  rw [if_pos hl]
  exact hg
theorem cmp_ints {c : Cm} {a : E} {x y : Int} (ha : denE Γ a env s = some (.py (.int x), s1)) : denT Γ (.cmpT (.cm c) a (.litI y)) env s = some (c.ints x y, s1) := by
  show fAsB (f2 (pyD (cmG c)) (denE Γ a) (fLit (.int y))) env s = _
  unfold fAsB f2
  rw [ha]
  rfl
theorem eq_ints {a : E} {x y : Int} (ha : denE Γ a env s = some (.py (.int x), s1)) : denT Γ (.cmpT .eq a (.litI y)) env s = some (x == y, s1) := by
  show fAsB (f2 (pyD (eqG false)) (denE Γ a) (fLit (.int y))) env s = _
  unfold fAsB f2
  rw [ha]
  rfl
theorem set_val {i : Nat} {e : E} {d : D} (h : denE Γ e env s = some (d, s1)) : denC Γ (.set i e) env s = some (.nx (env.set i (some d)) s1) := by
  show sSet i (denE Γ e) env s = _
  unfold sSet
  rw [h]
  rfl
theorem ret_val {e : E} {d : D} (h : denE Γ e env s = some (d, s1)) : denC Γ (.ret e) env s = some (.rt d s1) := by
  show sRet (denE Γ e) env s = _
  unfold sRet
  rw [h]
  rfl
end

end Rf

namespace Lw
open PySem PySem.Spec PyProof.Rows
open L2 Rf
def topS (i : Nat) : Stmt := PySem.Challenge.pw_levelskins_k23_table_of_sixteen.main.body.getD i (.Pass ⟨0, 0, 0, 0⟩)
abbrev s_table : Stmt := topS 2
theorem sc_table : FnScope [] [] (defScope s_table) := ⟨rfl, rfl, rfl, by decide +kernel, rfl, by decide +kernel, by decide +kernel⟩
abbrev s__law_deck : Stmt := topS 4
theorem sc__law_deck : FnScope ["_law_script", "_law_cell"] ["_law_script"] (defScope s__law_deck) := ⟨rfl, rfl, rfl, by decide +kernel, rfl, by decide +kernel, by decide +kernel⟩
abbrev s__law_draw : Stmt := topS 5
theorem sc__law_draw : FnScope ["_law_deck_here", "_law_many", "_law_cell", "_law_place"] ["_law_deck_here", "_law_many"] (defScope s__law_draw) := ⟨rfl, rfl, rfl, by decide +kernel, rfl, by decide +kernel, by decide +kernel⟩
abbrev s__law_less : Stmt := topS 6
theorem sc__law_less : FnScope ["_law_one", "_law_other", "_law_k"] ["_law_one", "_law_other"] (defScope s__law_less) := ⟨rfl, rfl, rfl, by decide +kernel, rfl, by decide +kernel, by decide +kernel⟩
abbrev s__law_det : Stmt := topS 7
theorem sc__law_det : FnScope ["_law_a", "_law_b", "_law_c", "_law_x", "_law_y"] ["_law_a", "_law_b", "_law_c"] (defScope s__law_det) := ⟨rfl, rfl, rfl, by decide +kernel, rfl, by decide +kernel, by decide +kernel⟩
abbrev s__law_whole : Stmt := topS 8
theorem sc__law_whole : FnScope ["_law_thing"] ["_law_thing"] (defScope s__law_whole) := ⟨rfl, rfl, rfl, by decide +kernel, rfl, by decide +kernel, by decide +kernel⟩
abbrev s__law_same : Stmt := topS 9
theorem sc__law_same : FnScope ["_law_found", "_law_due", "_law_one", "_law_other"] ["_law_found", "_law_due"] (defScope s__law_same) := ⟨rfl, rfl, rfl, by decide +kernel, rfl, by decide +kernel, by decide +kernel⟩
abbrev s__law_turned_wedge : Stmt := topS 10
theorem sc__law_turned_wedge : FnScope ["_law_deck_here", "_law_wedge", "_law_k", "_law_n", "_law_sides", "_law_six"] ["_law_deck_here"] (defScope s__law_turned_wedge) := ⟨rfl, rfl, rfl, by decide +kernel, rfl, by decide +kernel, by decide +kernel⟩
abbrev s__law_cycle : Stmt := topS 11
theorem sc__law_cycle : FnScope ["_law_wedge", "_law_kinds", "_law_high", "_law_n", "_law_low", "_law_found", "_law_one", "_law_other", "_law_middles", "_law_k", "_law_first", "_law_second", "_law_at"] ["_law_wedge", "_law_kinds"] (defScope s__law_cycle) := ⟨rfl, rfl, rfl, by decide +kernel, rfl, by decide +kernel, by decide +kernel⟩
abbrev s_law : Stmt := topS 12
theorem sc_law : FnScope ["_law_script", "_law_deck_here", "_law_wedge", "_law_due", "_law_code", "_law_kinds"] ["_law_script"] (defScope s_law) := ⟨rfl, rfl, rfl, by decide +kernel, rfl, by decide +kernel, by decide +kernel⟩
def p_TABLE : PyData := .tuple [.tuple [.tuple [.int 0, .int 0, .int 0, .int 0], .tuple []], .tuple [.tuple [.int 0, .int 0, .int 0, .int 1], .tuple [.tuple [.int 3, .int 0], .tuple [.int 3, .int 2], .tuple [.int 3, .int 1]]], .tuple [.tuple [.int 0, .int 0, .int 1, .int 0], .tuple [.tuple [.int 2, .int 0], .tuple [.int 2, .int 1], .tuple [.int 2, .int 3]]], .tuple [.tuple [.int 0, .int 0, .int 1, .int 1], .tuple [.tuple [.int 2, .int 0], .tuple [.int 2, .int 1], .tuple [.int 3, .int 1], .tuple [.int 3, .int 0]]], .tuple [.tuple [.int 0, .int 1, .int 0, .int 0], .tuple [.tuple [.int 1, .int 0], .tuple [.int 1, .int 3], .tuple [.int 1, .int 2]]], .tuple [.tuple [.int 0, .int 1, .int 0, .int 1], .tuple [.tuple [.int 1, .int 0], .tuple [.int 3, .int 0], .tuple [.int 3, .int 2], .tuple [.int 1, .int 2]]], .tuple [.tuple [.int 0, .int 1, .int 1, .int 0], .tuple [.tuple [.int 1, .int 0], .tuple [.int 1, .int 3], .tuple [.int 2, .int 3], .tuple [.int 2, .int 0]]], .tuple [.tuple [.int 0, .int 1, .int 1, .int 1], .tuple [.tuple [.int 1, .int 0], .tuple [.int 3, .int 0], .tuple [.int 2, .int 0]]], .tuple [.tuple [.int 1, .int 0, .int 0, .int 0], .tuple [.tuple [.int 0, .int 1], .tuple [.int 0, .int 2], .tuple [.int 0, .int 3]]], .tuple [.tuple [.int 1, .int 0, .int 0, .int 1], .tuple [.tuple [.int 0, .int 1], .tuple [.int 0, .int 2], .tuple [.int 3, .int 2], .tuple [.int 3, .int 1]]], .tuple [.tuple [.int 1, .int 0, .int 1, .int 0], .tuple [.tuple [.int 0, .int 1], .tuple [.int 2, .int 1], .tuple [.int 2, .int 3], .tuple [.int 0, .int 3]]], .tuple [.tuple [.int 1, .int 0, .int 1, .int 1], .tuple [.tuple [.int 0, .int 1], .tuple [.int 2, .int 1], .tuple [.int 3, .int 1]]], .tuple [.tuple [.int 1, .int 1, .int 0, .int 0], .tuple [.tuple [.int 0, .int 2], .tuple [.int 0, .int 3], .tuple [.int 1, .int 3], .tuple [.int 1, .int 2]]], .tuple [.tuple [.int 1, .int 1, .int 0, .int 1], .tuple [.tuple [.int 0, .int 2], .tuple [.int 3, .int 2], .tuple [.int 1, .int 2]]], .tuple [.tuple [.int 1, .int 1, .int 1, .int 0], .tuple [.tuple [.int 0, .int 3], .tuple [.int 1, .int 3], .tuple [.int 2, .int 3]]], .tuple [.tuple [.int 1, .int 1, .int 1, .int 1], .tuple []]]
def c_table : Cs := .cons (.ret (.glob 0)) [] (.nil)
def G_table : Tb := ⟨[], [("TABLE", p_TABLE)], []⟩
def d_table : FN := fnDen 0 (denCs G_table c_table)
theorem k_table : chkCs G_table [] (defScope s_table) (fun _ => true) [] [] c_table (defBody s_table) = true := by kernel_rfl
def c__law_less : Cs := .cons (.ret (.lc [] [2] (.name 2) (.range1 (.litI 3)) (.none) (.bin .sub (.ix (.var 0) (.var 2)) (.ix (.var 1) (.var 2))))) [] (.nil)
def G__law_less : Tb := ⟨[], [], ["range"]⟩
def d__law_less : FN := fnDen 3 (denCs G__law_less c__law_less)
theorem k__law_less : chkCs G__law_less ["_law_one", "_law_other", "_law_k"] (defScope s__law_less) (fun _ => true) [] [] c__law_less (defBody s__law_less) = true := by kernel_rfl
def c__law_det : Cs := .cons (.set 3 (.bin .mul (.ix (.var 0) (.litI 0)) (.bin .sub (.bin .mul (.ix (.var 1) (.litI 1)) (.ix (.var 2) (.litI 2))) (.bin .mul (.ix (.var 1) (.litI 2)) (.ix (.var 2) (.litI 1)))))) [] (.cons (.set 4 (.bin .mul (.ix (.var 0) (.litI 1)) (.bin .sub (.bin .mul (.ix (.var 1) (.litI 0)) (.ix (.var 2) (.litI 2))) (.bin .mul (.ix (.var 1) (.litI 2)) (.ix (.var 2) (.litI 0)))))) [] (.cons (.ret (.bin .add (.bin .sub (.var 3) (.var 4)) (.bin .mul (.ix (.var 0) (.litI 2)) (.bin .sub (.bin .mul (.ix (.var 1) (.litI 0)) (.ix (.var 2) (.litI 1))) (.bin .mul (.ix (.var 1) (.litI 1)) (.ix (.var 2) (.litI 0))))))) [] (.nil)))
def G__law_det : Tb := ⟨[], [], []⟩
def d__law_det : FN := fnDen 5 (denCs G__law_det c__law_det)
theorem k__law_det : chkCs G__law_det ["_law_a", "_law_b", "_law_c", "_law_x", "_law_y"] (defScope s__law_det) (fun _ => true) [] [] c__law_det (defBody s__law_det) = true := by kernel_rfl
def c__law_whole : Cs := .cons (.ret (.andV (.cons (.isa .int (.var 0)) (.one (.notV (.isa .bool (.var 0))))))) [] (.nil)
def G__law_whole : Tb := ⟨[], [], ["isinstance", "int", "bool"]⟩
def d__law_whole : FN := fnDen 1 (denCs G__law_whole c__law_whole)
theorem k__law_whole : chkCs G__law_whole ["_law_thing"] (defScope s__law_whole) (fun _ => true) [] [] c__law_whole (defBody s__law_whole) = true := by kernel_rfl
def c__law_same : Cs := .cons (.iff (.val (.isa .tuple (.var 1))) (.cons (.iff (.orT (.cons (.notT (.val (.isa .tuple (.var 0)))) (.one (.cmpT .ne (.blt .len (.cons (.var 0) (.nil))) (.blt .len (.cons (.var 1) (.nil))))))) (.cons (.ret (.litB false)) [] (.nil)) (.nil)) [] (.cons (.ret (.cmp .eq (.lc [] [2, 3] (.tup (.cons (.name 2) (.cons (.name 3) (.nil)))) (.zip (.var 0) (.var 1)) (.some (.notT (.val (.fn 0 (.cons (.var 2) (.cons (.var 3) (.nil))))))) (.litI 1)) (.lst (.nil)))) [] (.nil))) (.nil)) [] (.cons (.iff (.cmpT .isN (.var 1) (.litN)) (.cons (.ret (.cmp .isN (.var 0) (.litN))) [] (.nil)) (.nil)) [] (.cons (.ret (.andV (.cons (.fn 1 (.cons (.var 0) (.nil))) (.one (.cmp .eq (.var 0) (.var 1)))))) [] (.nil)))
def G__law_same (g : FN) : Tb := ⟨[("_law_same", 2, g), ("_law_whole", 1, d__law_whole)], [], ["isinstance", "tuple", "len", "zip"]⟩
def d__law_same : Nat → FN
  | 0 => fun _ _ => none
  | n + 1 => fnDen 4 (denCs (G__law_same (d__law_same n)) c__law_same)
theorem k__law_same (g : FN) : chkCs (G__law_same g) ["_law_found", "_law_due", "_law_one", "_law_other"] (defScope s__law_same) (fun _ => true) [] [] c__law_same (defBody s__law_same) = true := by kernel_rfl
def c__law_turned_wedge : Cs := .cons (.set 1 (.lc [] [3] (.name 3) (.range1 (.litI 4)) (.none) (.lc [] [2] (.name 2) (.range1 (.litI 3)) (.none) (.fn 0 (.cons (.var 0) (.cons (.litI 13) (.nil))))))) [] (.cons (.set 4 (.lc [] [3] (.name 3) (.seq (.tup (.cons (.litI 1) (.cons (.litI 2) (.cons (.litI 3) (.nil)))))) (.none) (.fn 1 (.cons (.ix (.var 1) (.var 3)) (.cons (.ix (.var 1) (.litI 0)) (.nil)))))) [] (.cons (.set 5 (.fn 2 (.cons (.ix (.var 4) (.litI 0)) (.cons (.ix (.var 4) (.litI 1)) (.cons (.ix (.var 4) (.litI 2)) (.nil)))))) [] (.cons (.iff (.cmpT .eq (.var 5) (.litI 0)) (.cons (.ret (.lst (.cons (.lst (.cons (.litI 0) (.cons (.litI 0) (.cons (.litI 0) (.nil))))) (.cons (.lst (.cons (.litI 1) (.cons (.litI 0) (.cons (.litI 0) (.nil))))) (.cons (.lst (.cons (.litI 0) (.cons (.litI 2) (.cons (.litI 0) (.nil))))) (.cons (.lst (.cons (.litI 0) (.cons (.litI 0) (.cons (.litI 3) (.nil))))) (.nil))))))) [] (.nil)) (.nil)) [] (.cons (.iff (.cmpT (.cm .lt) (.var 5) (.litI 0)) (.cons (.ret (.lst (.cons (.ix (.var 1) (.litI 0)) (.cons (.ix (.var 1) (.litI 1)) (.cons (.ix (.var 1) (.litI 3)) (.cons (.ix (.var 1) (.litI 2)) (.nil))))))) [] (.nil)) (.nil)) [] (.cons (.ret (.var 1)) [] (.nil))))))
def G__law_turned_wedge : Tb := ⟨[("_law_draw", 2, drawG), ("_law_less", 2, d__law_less), ("_law_det", 3, d__law_det)], [], ["range"]⟩
def d__law_turned_wedge : FN := fnDen 6 (denCs G__law_turned_wedge c__law_turned_wedge)
theorem k__law_turned_wedge : chkCs G__law_turned_wedge ["_law_deck_here", "_law_wedge", "_law_k", "_law_n", "_law_sides", "_law_six"] (defScope s__law_turned_wedge) (fun _ => true) [] [] c__law_turned_wedge (defBody s__law_turned_wedge) = true := by kernel_rfl
def c__law_cycle : Cs := .cons (.set 2 (.lc [] [3] (.name 3) (.range1 (.litI 4)) (.some (.cmpT .eq (.ix (.var 1) (.var 3)) (.litI 1))) (.var 3))) [] (.cons (.set 4 (.lc [] [3] (.name 3) (.range1 (.litI 4)) (.some (.cmpT .eq (.ix (.var 1) (.var 3)) (.litI 0))) (.var 3))) [] (.cons (.iff (.orT (.cons (.cmpT .eq (.var 2) (.lst (.nil))) (.one (.cmpT .eq (.var 4) (.lst (.nil)))))) (.cons (.ret (.tup (.nil))) [] (.nil)) (.nil)) [] (.cons (.set 5 (.lst (.nil))) [] (.cons (.for_ (.name 6) (.seq (.var 2)) (.cons (.set 5 (.bin .add (.var 5) (.lc [] [7] (.name 7) (.seq (.var 4)) (.none) (.tup (.cons (.var 6) (.cons (.var 7) (.nil))))))) [] (.nil))) [] (.cons (.iff (.cmpT .eq (.blt .len (.cons (.var 5) (.nil))) (.litI 4)) (.cons (.set 5 (.lst (.cons (.ix (.var 5) (.litI 0)) (.cons (.ix (.var 5) (.litI 1)) (.cons (.ix (.var 5) (.litI 3)) (.cons (.ix (.var 5) (.litI 2)) (.nil))))))) [] (.nil)) (.nil)) [] (.cons (.set 8 (.lc [] [6, 7] (.tup (.cons (.name 6) (.cons (.name 7) (.nil)))) (.seq (.var 5)) (.none) (.lc [] [9] (.name 9) (.range1 (.litI 3)) (.none) (.bin .add (.ix (.ix (.var 0) (.var 6)) (.var 9)) (.ix (.ix (.var 0) (.var 7)) (.var 9)))))) [] (.cons (.set 10 (.fn 0 (.cons (.ix (.var 8) (.litI 1)) (.cons (.ix (.var 8) (.litI 0)) (.nil))))) [] (.cons (.set 11 (.fn 0 (.cons (.ix (.var 8) (.litI 2)) (.cons (.ix (.var 8) (.litI 0)) (.nil))))) [] (.cons (.iff (.cmpT (.cm .lt) (.fn 1 (.cons (.var 10) (.cons (.var 11) (.cons (.fn 0 (.cons (.ix (.var 0) (.ix (.var 4) (.litI 0))) (.cons (.ix (.var 0) (.ix (.var 2) (.litI 0))) (.nil)))) (.nil))))) (.litI 0)) (.cons (.set 5 (.rev (.var 5))) [] (.nil)) (.nil)) [] (.cons (.set 12 (.index (.var 5) (.blt .minD (.cons (.var 5) (.nil))))) [] (.cons (.ret (.blt .tuple (.cons (.bin .add (.sl (.var 5) (.some (.var 12)) (.none)) (.sl (.var 5) (.none) (.some (.var 12)))) (.nil)))) [] (.nil))))))))))))
def G__law_cycle : Tb := ⟨[("_law_less", 2, d__law_less), ("_law_det", 3, d__law_det)], [], ["range", "len", "min", "tuple"]⟩
def d__law_cycle : FN := fnDen 13 (denCs G__law_cycle c__law_cycle)
theorem k__law_cycle : chkCs G__law_cycle ["_law_wedge", "_law_kinds", "_law_high", "_law_n", "_law_low", "_law_found", "_law_one", "_law_other", "_law_middles", "_law_k", "_law_first", "_law_second", "_law_at"] (defScope s__law_cycle) (fun _ => true) [] [] c__law_cycle (defBody s__law_cycle) = true := by kernel_rfl
def c_law : Cs := .cons (.set 2 (.fn 0 (.cons (.var 1) (.nil)))) [] (.cons (.new 3) [3] (.cons (.for_ (.name 4) (.range1 (.litI 16)) (.cons (.set 5 (.tup (.cons (.bin .fdiv (.var 4) (.litI 8)) (.cons (.bin .mod (.bin .fdiv (.var 4) (.litI 4)) (.litI 2)) (.cons (.bin .mod (.bin .fdiv (.var 4) (.litI 2)) (.litI 2)) (.cons (.bin .mod (.var 4) (.litI 2)) (.nil))))))) [3] (.cons (.app 3 (.tup (.cons (.var 5) (.cons (.fn 1 (.cons (.var 2) (.cons (.var 5) (.nil)))) (.nil))))) [3] (.nil)))) [3] (.frz 3 (.cons (.ret (.andV (.cons (.fn 2 (.cons (.fn 3 (.nil)) (.cons (.blt .tuple (.cons (.var 3) (.nil))) (.nil)))) (.one (.fn 2 (.cons (.fn 3 (.nil)) (.cons (.blt .tuple (.cons (.var 3) (.nil))) (.nil)))))))) [] (.nil)))))
def G_law : Tb := ⟨[("_law_turned_wedge", 1, d__law_turned_wedge), ("_law_cycle", 2, d__law_cycle), ("_law_same", 2, (d__law_same 6)), ("table", 0, d_table)], [], ["range", "tuple"]⟩
theorem k_law : chkCs G_law ["_law_script", "_law_deck_here", "_law_wedge", "_law_due", "_law_code", "_law_kinds"] (defScope s_law) (fun _ => true) [] [] c_law (defBody s_law).tail = true := by kernel_rfl
def v3 (a b c : Int) : PyData := .list [.int a, .int b, .int c]
def detI (a b c d e f g h i : Int) : Int := a * (e * i - f * h) - b * (d * i - f * g) + c * (d * h - e * g)
theorem mulC_small {i j : Int} (h1 : -(2 ^ 64) < i) (h2 : i < 2 ^ 64) : mulC i j = true := by
  unfold mulC
  rw [decide_eq_true h1, decide_eq_true h2]
  rfl
theorem mulD_small {i j : Int} (h1 : -(2 ^ 64) < i) (h2 : i < 2 ^ 64) : mulD (.py (.int i)) (.py (.int j)) = some (.py (.int (i * j))) := by
  show (if mulC i j = true then some (D.py (.int (i * j))) else none) = _
  rw [if_pos (mulC_small h1 h2)]
def Sm (x : Int) : Prop := -1000000 < x ∧ x < 1000000
def Pt (x : Int) : Prop := 0 ≤ x ∧ x < 13
theorem Sm.mul {i j : Int} (h : Sm i) : mulD (.py (.int i)) (.py (.int j)) = some (.py (.int (i * j))) := mulD_small (by have := h.1; omega) (by have := h.2; omega)
theorem det_eq {a b c d e f g h i : Int} (ha : Sm a) (hb : Sm b) (hc : Sm c) (hd : Sm d) (he : Sm e) (hf : Sm f) (s : S) : d__law_det [.py (v3 a b c), .py (v3 d e f), .py (v3 g h i)] s = some (.py (.int (detI a b c d e f g h i)), s) := by
  simp [d__law_det, fnDen, Rf.envOf, c__law_det, denCs, denC, sSeq, sSet, sRet, denE, f2, fVar, fLit, Bop.g, ixG, pyD, v3, atI, ixN, Sm.mul ha, Sm.mul hb, Sm.mul hc, Sm.mul hd, Sm.mul he, Sm.mul hf, subD, addD, Rf.intD, detI]
def W4 (a0 a1 a2 b0 b1 b2 c0 c1 c2 d0 d1 d2 : Int) : PyData := .list [v3 a0 a1 a2, v3 b0 b1 b2, v3 c0 c1 c2, v3 d0 d1 d2]
def esC : Es := .cons (.var 10) (.cons (.var 11) (.cons (.fn 0 (.cons (.ix (.var 0) (.ix (.var 4) (.litI 0))) (.cons (.ix (.var 0) (.ix (.var 2) (.litI 0))) (.nil)))) (.nil)))
def aC : Cs := .cons (.set 5 (.rev (.var 5))) [] (.nil)
def rC : Cs := .cons (.set 12 (.index (.var 5) (.blt .minD (.cons (.var 5) (.nil))))) [] (.cons (.ret (.blt .tuple (.cons (.bin .add (.sl (.var 5) (.some (.var 12)) (.none)) (.sl (.var 5) (.none) (.some (.var 12)))) (.nil)))) [] (.nil))
theorem restC : dropC 9 c__law_cycle = .cons (.iff (.cmpT (.cm .lt) (.fn 1 esC) (.litI 0)) aC (.nil)) [] rC := by kernel_rfl
theorem fn_of_rt {n : Nat} {fb : FS} {ds : List D} {s s1 : S} {d : D} (h : fb (Rf.envOf n ds) s = some (.rt d s1)) : fnDen n fb ds s = some (d, s1) := by
  unfold fnDen
  rw [h]

theorem cyc_0 {a0 a1 a2 b0 b1 b2 c0 c1 c2 d0 d1 d2 : Int} (ha0 : Pt a0) (ha1 : Pt a1) (ha2 : Pt a2) (hb0 : Pt b0) (hb1 : Pt b1) (hb2 : Pt b2) (hc0 : Pt c0) (hc1 : Pt c1) (hc2 : Pt c2) (hd0 : Pt d0) (hd1 : Pt d1) (hd2 : Pt d2) (six : 0 < detI (b0 - a0) (b1 - a1) (b2 - a2) (c0 - a0) (c1 - a1) (c2 - a2) (d0 - a0) (d1 - a1) (d2 - a2)) (s : S) : d__law_cycle [.py (W4 a0 a1 a2 b0 b1 b2 c0 c1 c2 d0 d1 d2), .py (.tuple [.int 0, .int 0, .int 0, .int 0])] s = some (.py (.tuple []), s) := by
  kernel_rfl
theorem sgn_1 (a0 a1 a2 b0 b1 b2 c0 c1 c2 d0 d1 d2 : Int) : detI ((d0 + b0) - (d0 + a0)) ((d1 + b1) - (d1 + a1)) ((d2 + b2) - (d2 + a2)) ((d0 + c0) - (d0 + a0)) ((d1 + c1) - (d1 + a1)) ((d2 + c2) - (d2 + a2)) (a0 - d0) (a1 - d1) (a2 - d2) = -1 * detI (b0 - a0) (b1 - a1) (b2 - a2) (c0 - a0) (c1 - a1) (c2 - a2) (d0 - a0) (d1 - a1) (d2 - a2) := by
  unfold detI
  grind
theorem pre_1 (a0 a1 a2 b0 b1 b2 c0 c1 c2 d0 d1 d2 : Int) (s : S) : steps G__law_cycle 9 c__law_cycle (Rf.envOf 13 [.py (W4 a0 a1 a2 b0 b1 b2 c0 c1 c2 d0 d1 d2), .py (.tuple [.int 0, .int 0, .int 0, .int 1])]) s = some ([some (.py (W4 a0 a1 a2 b0 b1 b2 c0 c1 c2 d0 d1 d2)), some (.py (.tuple [.int 0, .int 0, .int 0, .int 1])), some (.py (.list [.int 3])), none, some (.py (.list [.int 0, .int 1, .int 2])), some (.py (.list [.tuple [.int 3, .int 0], .tuple [.int 3, .int 1], .tuple [.int 3, .int 2]])), some (.py (.int 3)), none, some (.py (.list [v3 (d0 + a0) (d1 + a1) (d2 + a2), v3 (d0 + b0) (d1 + b1) (d2 + b2), v3 (d0 + c0) (d1 + c1) (d2 + c2)])), none, some (.py (v3 ((d0 + b0) - (d0 + a0)) ((d1 + b1) - (d1 + a1)) ((d2 + b2) - (d2 + a2)))), some (.py (v3 ((d0 + c0) - (d0 + a0)) ((d1 + c1) - (d1 + a1)) ((d2 + c2) - (d2 + a2)))), none], s) := by kernel_rfl
theorem arg_1 (a0 a1 a2 b0 b1 b2 c0 c1 c2 d0 d1 d2 : Int) (s : S) : denEs G__law_cycle esC ([some (.py (W4 a0 a1 a2 b0 b1 b2 c0 c1 c2 d0 d1 d2)), some (.py (.tuple [.int 0, .int 0, .int 0, .int 1])), some (.py (.list [.int 3])), none, some (.py (.list [.int 0, .int 1, .int 2])), some (.py (.list [.tuple [.int 3, .int 0], .tuple [.int 3, .int 1], .tuple [.int 3, .int 2]])), some (.py (.int 3)), none, some (.py (.list [v3 (d0 + a0) (d1 + a1) (d2 + a2), v3 (d0 + b0) (d1 + b1) (d2 + b2), v3 (d0 + c0) (d1 + c1) (d2 + c2)])), none, some (.py (v3 ((d0 + b0) - (d0 + a0)) ((d1 + b1) - (d1 + a1)) ((d2 + b2) - (d2 + a2)))), some (.py (v3 ((d0 + c0) - (d0 + a0)) ((d1 + c1) - (d1 + a1)) ((d2 + c2) - (d2 + a2)))), none]) s = some ([.py (v3 ((d0 + b0) - (d0 + a0)) ((d1 + b1) - (d1 + a1)) ((d2 + b2) - (d2 + a2))), .py (v3 ((d0 + c0) - (d0 + a0)) ((d1 + c1) - (d1 + a1)) ((d2 + c2) - (d2 + a2))), .py (v3 (a0 - d0) (a1 - d1) (a2 - d2))], s) := by kernel_rfl
theorem mid_1 (a0 a1 a2 b0 b1 b2 c0 c1 c2 d0 d1 d2 : Int) (s : S) : denCs G__law_cycle aC ([some (.py (W4 a0 a1 a2 b0 b1 b2 c0 c1 c2 d0 d1 d2)), some (.py (.tuple [.int 0, .int 0, .int 0, .int 1])), some (.py (.list [.int 3])), none, some (.py (.list [.int 0, .int 1, .int 2])), some (.py (.list [.tuple [.int 3, .int 0], .tuple [.int 3, .int 1], .tuple [.int 3, .int 2]])), some (.py (.int 3)), none, some (.py (.list [v3 (d0 + a0) (d1 + a1) (d2 + a2), v3 (d0 + b0) (d1 + b1) (d2 + b2), v3 (d0 + c0) (d1 + c1) (d2 + c2)])), none, some (.py (v3 ((d0 + b0) - (d0 + a0)) ((d1 + b1) - (d1 + a1)) ((d2 + b2) - (d2 + a2)))), some (.py (v3 ((d0 + c0) - (d0 + a0)) ((d1 + c1) - (d1 + a1)) ((d2 + c2) - (d2 + a2)))), none]) s = some (.nx ([some (.py (W4 a0 a1 a2 b0 b1 b2 c0 c1 c2 d0 d1 d2)), some (.py (.tuple [.int 0, .int 0, .int 0, .int 1])), some (.py (.list [.int 3])), none, some (.py (.list [.int 0, .int 1, .int 2])), some (.py (.list [.tuple [.int 3, .int 2], .tuple [.int 3, .int 1], .tuple [.int 3, .int 0]])), some (.py (.int 3)), none, some (.py (.list [v3 (d0 + a0) (d1 + a1) (d2 + a2), v3 (d0 + b0) (d1 + b1) (d2 + b2), v3 (d0 + c0) (d1 + c1) (d2 + c2)])), none, some (.py (v3 ((d0 + b0) - (d0 + a0)) ((d1 + b1) - (d1 + a1)) ((d2 + b2) - (d2 + a2)))), some (.py (v3 ((d0 + c0) - (d0 + a0)) ((d1 + c1) - (d1 + a1)) ((d2 + c2) - (d2 + a2)))), none]) s) := by kernel_rfl
theorem post_1 (a0 a1 a2 b0 b1 b2 c0 c1 c2 d0 d1 d2 : Int) (s : S) : denCs G__law_cycle rC ([some (.py (W4 a0 a1 a2 b0 b1 b2 c0 c1 c2 d0 d1 d2)), some (.py (.tuple [.int 0, .int 0, .int 0, .int 1])), some (.py (.list [.int 3])), none, some (.py (.list [.int 0, .int 1, .int 2])), some (.py (.list [.tuple [.int 3, .int 2], .tuple [.int 3, .int 1], .tuple [.int 3, .int 0]])), some (.py (.int 3)), none, some (.py (.list [v3 (d0 + a0) (d1 + a1) (d2 + a2), v3 (d0 + b0) (d1 + b1) (d2 + b2), v3 (d0 + c0) (d1 + c1) (d2 + c2)])), none, some (.py (v3 ((d0 + b0) - (d0 + a0)) ((d1 + b1) - (d1 + a1)) ((d2 + b2) - (d2 + a2)))), some (.py (v3 ((d0 + c0) - (d0 + a0)) ((d1 + c1) - (d1 + a1)) ((d2 + c2) - (d2 + a2)))), none]) s = some (.rt (.py (.tuple [.tuple [.int 3, .int 0], .tuple [.int 3, .int 2], .tuple [.int 3, .int 1]])) s) := by kernel_rfl
theorem cyc_1 {a0 a1 a2 b0 b1 b2 c0 c1 c2 d0 d1 d2 : Int} (ha0 : Pt a0) (ha1 : Pt a1) (ha2 : Pt a2) (hb0 : Pt b0) (hb1 : Pt b1) (hb2 : Pt b2) (hc0 : Pt c0) (hc1 : Pt c1) (hc2 : Pt c2) (hd0 : Pt d0) (hd1 : Pt d1) (hd2 : Pt d2) (six : 0 < detI (b0 - a0) (b1 - a1) (b2 - a2) (c0 - a0) (c1 - a1) (c2 - a2) (d0 - a0) (d1 - a1) (d2 - a2)) (s : S) : d__law_cycle [.py (W4 a0 a1 a2 b0 b1 b2 c0 c1 c2 d0 d1 d2), .py (.tuple [.int 0, .int 0, .int 0, .int 1])] s = some (.py (.tuple [.tuple [.int 3, .int 0], .tuple [.int 3, .int 2], .tuple [.int 3, .int 1]]), s) := by
  have hd := det_eq (a := ((d0 + b0) - (d0 + a0))) (b := ((d1 + b1) - (d1 + a1))) (c := ((d2 + b2) - (d2 + a2))) (d := ((d0 + c0) - (d0 + a0))) (e := ((d1 + c1) - (d1 + a1))) (f := ((d2 + c2) - (d2 + a2))) (g := (a0 - d0)) (h := (a1 - d1)) (i := (a2 - d2)) ⟨by have := hd0.1; have := hd0.2; have := hb0.1; have := hb0.2; have := hd0.1; have := hd0.2; have := ha0.1; have := ha0.2; omega, by have := hd0.1; have := hd0.2; have := hb0.1; have := hb0.2; have := hd0.1; have := hd0.2; have := ha0.1; have := ha0.2; omega⟩ ⟨by have := hd1.1; have := hd1.2; have := hb1.1; have := hb1.2; have := hd1.1; have := hd1.2; have := ha1.1; have := ha1.2; omega, by have := hd1.1; have := hd1.2; have := hb1.1; have := hb1.2; have := hd1.1; have := hd1.2; have := ha1.1; have := ha1.2; omega⟩ ⟨by have := hd2.1; have := hd2.2; have := hb2.1; have := hb2.2; have := hd2.1; have := hd2.2; have := ha2.1; have := ha2.2; omega, by have := hd2.1; have := hd2.2; have := hb2.1; have := hb2.2; have := hd2.1; have := hd2.2; have := ha2.1; have := ha2.2; omega⟩ ⟨by have := hd0.1; have := hd0.2; have := hc0.1; have := hc0.2; have := hd0.1; have := hd0.2; have := ha0.1; have := ha0.2; omega, by have := hd0.1; have := hd0.2; have := hc0.1; have := hc0.2; have := hd0.1; have := hd0.2; have := ha0.1; have := ha0.2; omega⟩ ⟨by have := hd1.1; have := hd1.2; have := hc1.1; have := hc1.2; have := hd1.1; have := hd1.2; have := ha1.1; have := ha1.2; omega, by have := hd1.1; have := hd1.2; have := hc1.1; have := hc1.2; have := hd1.1; have := hd1.2; have := ha1.1; have := ha1.2; omega⟩ ⟨by have := hd2.1; have := hd2.2; have := hc2.1; have := hc2.2; have := hd2.1; have := hd2.2; have := ha2.1; have := ha2.2; omega, by have := hd2.1; have := hd2.2; have := hc2.1; have := hc2.2; have := hd2.1; have := hd2.2; have := ha2.1; have := ha2.2; omega⟩ s
  have hT : denT G__law_cycle (.cmpT (.cm .lt) (.fn 1 esC) (.litI 0)) ([some (.py (W4 a0 a1 a2 b0 b1 b2 c0 c1 c2 d0 d1 d2)), some (.py (.tuple [.int 0, .int 0, .int 0, .int 1])), some (.py (.list [.int 3])), none, some (.py (.list [.int 0, .int 1, .int 2])), some (.py (.list [.tuple [.int 3, .int 0], .tuple [.int 3, .int 1], .tuple [.int 3, .int 2]])), some (.py (.int 3)), none, some (.py (.list [v3 (d0 + a0) (d1 + a1) (d2 + a2), v3 (d0 + b0) (d1 + b1) (d2 + b2), v3 (d0 + c0) (d1 + c1) (d2 + c2)])), none, some (.py (v3 ((d0 + b0) - (d0 + a0)) ((d1 + b1) - (d1 + a1)) ((d2 + b2) - (d2 + a2)))), some (.py (v3 ((d0 + c0) - (d0 + a0)) ((d1 + c1) - (d1 + a1)) ((d2 + c2) - (d2 + a2)))), none]) s = some (true, s) := by
    rw [cmp_ints (fn_val rfl (arg_1 a0 a1 a2 b0 b1 b2 c0 c1 c2 d0 d1 d2 s) rfl hd)]
    rw [sgn_1]
    generalize detI (b0 - a0) (b1 - a1) (b2 - a2) (c0 - a0) (c1 - a1) (c2 - a2) (d0 - a0) (d1 - a1) (d2 - a2) = x at six
    rw [show Cm.ints .lt (-1 * x) 0 = true from decide_eq_true (by omega)]
  refine fn_of_rt ?_
  rw [steps_ok 9 (pre_1 a0 a1 a2 b0 b1 b2 c0 c1 c2 d0 d1 d2 s), restC]
  rw [cons_nx ((ifc_true hT).trans (mid_1 a0 a1 a2 b0 b1 b2 c0 c1 c2 d0 d1 d2 s))]
  exact post_1 a0 a1 a2 b0 b1 b2 c0 c1 c2 d0 d1 d2 s
theorem sgn_2 (a0 a1 a2 b0 b1 b2 c0 c1 c2 d0 d1 d2 : Int) : detI ((c0 + b0) - (c0 + a0)) ((c1 + b1) - (c1 + a1)) ((c2 + b2) - (c2 + a2)) ((c0 + d0) - (c0 + a0)) ((c1 + d1) - (c1 + a1)) ((c2 + d2) - (c2 + a2)) (a0 - c0) (a1 - c1) (a2 - c2) = 1 * detI (b0 - a0) (b1 - a1) (b2 - a2) (c0 - a0) (c1 - a1) (c2 - a2) (d0 - a0) (d1 - a1) (d2 - a2) := by
  unfold detI
  grind
theorem pre_2 (a0 a1 a2 b0 b1 b2 c0 c1 c2 d0 d1 d2 : Int) (s : S) : steps G__law_cycle 9 c__law_cycle (Rf.envOf 13 [.py (W4 a0 a1 a2 b0 b1 b2 c0 c1 c2 d0 d1 d2), .py (.tuple [.int 0, .int 0, .int 1, .int 0])]) s = some ([some (.py (W4 a0 a1 a2 b0 b1 b2 c0 c1 c2 d0 d1 d2)), some (.py (.tuple [.int 0, .int 0, .int 1, .int 0])), some (.py (.list [.int 2])), none, some (.py (.list [.int 0, .int 1, .int 3])), some (.py (.list [.tuple [.int 2, .int 0], .tuple [.int 2, .int 1], .tuple [.int 2, .int 3]])), some (.py (.int 2)), none, some (.py (.list [v3 (c0 + a0) (c1 + a1) (c2 + a2), v3 (c0 + b0) (c1 + b1) (c2 + b2), v3 (c0 + d0) (c1 + d1) (c2 + d2)])), none, some (.py (v3 ((c0 + b0) - (c0 + a0)) ((c1 + b1) - (c1 + a1)) ((c2 + b2) - (c2 + a2)))), some (.py (v3 ((c0 + d0) - (c0 + a0)) ((c1 + d1) - (c1 + a1)) ((c2 + d2) - (c2 + a2)))), none], s) := by kernel_rfl
theorem arg_2 (a0 a1 a2 b0 b1 b2 c0 c1 c2 d0 d1 d2 : Int) (s : S) : denEs G__law_cycle esC ([some (.py (W4 a0 a1 a2 b0 b1 b2 c0 c1 c2 d0 d1 d2)), some (.py (.tuple [.int 0, .int 0, .int 1, .int 0])), some (.py (.list [.int 2])), none, some (.py (.list [.int 0, .int 1, .int 3])), some (.py (.list [.tuple [.int 2, .int 0], .tuple [.int 2, .int 1], .tuple [.int 2, .int 3]])), some (.py (.int 2)), none, some (.py (.list [v3 (c0 + a0) (c1 + a1) (c2 + a2), v3 (c0 + b0) (c1 + b1) (c2 + b2), v3 (c0 + d0) (c1 + d1) (c2 + d2)])), none, some (.py (v3 ((c0 + b0) - (c0 + a0)) ((c1 + b1) - (c1 + a1)) ((c2 + b2) - (c2 + a2)))), some (.py (v3 ((c0 + d0) - (c0 + a0)) ((c1 + d1) - (c1 + a1)) ((c2 + d2) - (c2 + a2)))), none]) s = some ([.py (v3 ((c0 + b0) - (c0 + a0)) ((c1 + b1) - (c1 + a1)) ((c2 + b2) - (c2 + a2))), .py (v3 ((c0 + d0) - (c0 + a0)) ((c1 + d1) - (c1 + a1)) ((c2 + d2) - (c2 + a2))), .py (v3 (a0 - c0) (a1 - c1) (a2 - c2))], s) := by kernel_rfl
theorem post_2 (a0 a1 a2 b0 b1 b2 c0 c1 c2 d0 d1 d2 : Int) (s : S) : denCs G__law_cycle rC ([some (.py (W4 a0 a1 a2 b0 b1 b2 c0 c1 c2 d0 d1 d2)), some (.py (.tuple [.int 0, .int 0, .int 1, .int 0])), some (.py (.list [.int 2])), none, some (.py (.list [.int 0, .int 1, .int 3])), some (.py (.list [.tuple [.int 2, .int 0], .tuple [.int 2, .int 1], .tuple [.int 2, .int 3]])), some (.py (.int 2)), none, some (.py (.list [v3 (c0 + a0) (c1 + a1) (c2 + a2), v3 (c0 + b0) (c1 + b1) (c2 + b2), v3 (c0 + d0) (c1 + d1) (c2 + d2)])), none, some (.py (v3 ((c0 + b0) - (c0 + a0)) ((c1 + b1) - (c1 + a1)) ((c2 + b2) - (c2 + a2)))), some (.py (v3 ((c0 + d0) - (c0 + a0)) ((c1 + d1) - (c1 + a1)) ((c2 + d2) - (c2 + a2)))), none]) s = some (.rt (.py (.tuple [.tuple [.int 2, .int 0], .tuple [.int 2, .int 1], .tuple [.int 2, .int 3]])) s) := by kernel_rfl
theorem cyc_2 {a0 a1 a2 b0 b1 b2 c0 c1 c2 d0 d1 d2 : Int} (ha0 : Pt a0) (ha1 : Pt a1) (ha2 : Pt a2) (hb0 : Pt b0) (hb1 : Pt b1) (hb2 : Pt b2) (hc0 : Pt c0) (hc1 : Pt c1) (hc2 : Pt c2) (hd0 : Pt d0) (hd1 : Pt d1) (hd2 : Pt d2) (six : 0 < detI (b0 - a0) (b1 - a1) (b2 - a2) (c0 - a0) (c1 - a1) (c2 - a2) (d0 - a0) (d1 - a1) (d2 - a2)) (s : S) : d__law_cycle [.py (W4 a0 a1 a2 b0 b1 b2 c0 c1 c2 d0 d1 d2), .py (.tuple [.int 0, .int 0, .int 1, .int 0])] s = some (.py (.tuple [.tuple [.int 2, .int 0], .tuple [.int 2, .int 1], .tuple [.int 2, .int 3]]), s) := by
  have hd := det_eq (a := ((c0 + b0) - (c0 + a0))) (b := ((c1 + b1) - (c1 + a1))) (c := ((c2 + b2) - (c2 + a2))) (d := ((c0 + d0) - (c0 + a0))) (e := ((c1 + d1) - (c1 + a1))) (f := ((c2 + d2) - (c2 + a2))) (g := (a0 - c0)) (h := (a1 - c1)) (i := (a2 - c2)) ⟨by have := hc0.1; have := hc0.2; have := hb0.1; have := hb0.2; have := hc0.1; have := hc0.2; have := ha0.1; have := ha0.2; omega, by have := hc0.1; have := hc0.2; have := hb0.1; have := hb0.2; have := hc0.1; have := hc0.2; have := ha0.1; have := ha0.2; omega⟩ ⟨by have := hc1.1; have := hc1.2; have := hb1.1; have := hb1.2; have := hc1.1; have := hc1.2; have := ha1.1; have := ha1.2; omega, by have := hc1.1; have := hc1.2; have := hb1.1; have := hb1.2; have := hc1.1; have := hc1.2; have := ha1.1; have := ha1.2; omega⟩ ⟨by have := hc2.1; have := hc2.2; have := hb2.1; have := hb2.2; have := hc2.1; have := hc2.2; have := ha2.1; have := ha2.2; omega, by have := hc2.1; have := hc2.2; have := hb2.1; have := hb2.2; have := hc2.1; have := hc2.2; have := ha2.1; have := ha2.2; omega⟩ ⟨by have := hc0.1; have := hc0.2; have := hd0.1; have := hd0.2; have := hc0.1; have := hc0.2; have := ha0.1; have := ha0.2; omega, by have := hc0.1; have := hc0.2; have := hd0.1; have := hd0.2; have := hc0.1; have := hc0.2; have := ha0.1; have := ha0.2; omega⟩ ⟨by have := hc1.1; have := hc1.2; have := hd1.1; have := hd1.2; have := hc1.1; have := hc1.2; have := ha1.1; have := ha1.2; omega, by have := hc1.1; have := hc1.2; have := hd1.1; have := hd1.2; have := hc1.1; have := hc1.2; have := ha1.1; have := ha1.2; omega⟩ ⟨by have := hc2.1; have := hc2.2; have := hd2.1; have := hd2.2; have := hc2.1; have := hc2.2; have := ha2.1; have := ha2.2; omega, by have := hc2.1; have := hc2.2; have := hd2.1; have := hd2.2; have := hc2.1; have := hc2.2; have := ha2.1; have := ha2.2; omega⟩ s
  have hT : denT G__law_cycle (.cmpT (.cm .lt) (.fn 1 esC) (.litI 0)) ([some (.py (W4 a0 a1 a2 b0 b1 b2 c0 c1 c2 d0 d1 d2)), some (.py (.tuple [.int 0, .int 0, .int 1, .int 0])), some (.py (.list [.int 2])), none, some (.py (.list [.int 0, .int 1, .int 3])), some (.py (.list [.tuple [.int 2, .int 0], .tuple [.int 2, .int 1], .tuple [.int 2, .int 3]])), some (.py (.int 2)), none, some (.py (.list [v3 (c0 + a0) (c1 + a1) (c2 + a2), v3 (c0 + b0) (c1 + b1) (c2 + b2), v3 (c0 + d0) (c1 + d1) (c2 + d2)])), none, some (.py (v3 ((c0 + b0) - (c0 + a0)) ((c1 + b1) - (c1 + a1)) ((c2 + b2) - (c2 + a2)))), some (.py (v3 ((c0 + d0) - (c0 + a0)) ((c1 + d1) - (c1 + a1)) ((c2 + d2) - (c2 + a2)))), none]) s = some (false, s) := by
    rw [cmp_ints (fn_val rfl (arg_2 a0 a1 a2 b0 b1 b2 c0 c1 c2 d0 d1 d2 s) rfl hd)]
    rw [sgn_2]
    generalize detI (b0 - a0) (b1 - a1) (b2 - a2) (c0 - a0) (c1 - a1) (c2 - a2) (d0 - a0) (d1 - a1) (d2 - a2) = x at six
    rw [show Cm.ints .lt (1 * x) 0 = false from decide_eq_false (by omega)]
  refine fn_of_rt ?_
  rw [steps_ok 9 (pre_2 a0 a1 a2 b0 b1 b2 c0 c1 c2 d0 d1 d2 s), restC]
  rw [cons_nx ((ifc_false hT).trans (show denCs G__law_cycle .nil _ s = some (Out.nx _ s) from rfl))]
  exact post_2 a0 a1 a2 b0 b1 b2 c0 c1 c2 d0 d1 d2 s
theorem sgn_3 (a0 a1 a2 b0 b1 b2 c0 c1 c2 d0 d1 d2 : Int) : detI ((c0 + b0) - (c0 + a0)) ((c1 + b1) - (c1 + a1)) ((c2 + b2) - (c2 + a2)) ((d0 + b0) - (c0 + a0)) ((d1 + b1) - (c1 + a1)) ((d2 + b2) - (c2 + a2)) (a0 - c0) (a1 - c1) (a2 - c2) = 1 * detI (b0 - a0) (b1 - a1) (b2 - a2) (c0 - a0) (c1 - a1) (c2 - a2) (d0 - a0) (d1 - a1) (d2 - a2) := by
  unfold detI
  grind
theorem pre_3 (a0 a1 a2 b0 b1 b2 c0 c1 c2 d0 d1 d2 : Int) (s : S) : steps G__law_cycle 9 c__law_cycle (Rf.envOf 13 [.py (W4 a0 a1 a2 b0 b1 b2 c0 c1 c2 d0 d1 d2), .py (.tuple [.int 0, .int 0, .int 1, .int 1])]) s = some ([some (.py (W4 a0 a1 a2 b0 b1 b2 c0 c1 c2 d0 d1 d2)), some (.py (.tuple [.int 0, .int 0, .int 1, .int 1])), some (.py (.list [.int 2, .int 3])), none, some (.py (.list [.int 0, .int 1])), some (.py (.list [.tuple [.int 2, .int 0], .tuple [.int 2, .int 1], .tuple [.int 3, .int 1], .tuple [.int 3, .int 0]])), some (.py (.int 3)), none, some (.py (.list [v3 (c0 + a0) (c1 + a1) (c2 + a2), v3 (c0 + b0) (c1 + b1) (c2 + b2), v3 (d0 + b0) (d1 + b1) (d2 + b2), v3 (d0 + a0) (d1 + a1) (d2 + a2)])), none, some (.py (v3 ((c0 + b0) - (c0 + a0)) ((c1 + b1) - (c1 + a1)) ((c2 + b2) - (c2 + a2)))), some (.py (v3 ((d0 + b0) - (c0 + a0)) ((d1 + b1) - (c1 + a1)) ((d2 + b2) - (c2 + a2)))), none], s) := by kernel_rfl
theorem arg_3 (a0 a1 a2 b0 b1 b2 c0 c1 c2 d0 d1 d2 : Int) (s : S) : denEs G__law_cycle esC ([some (.py (W4 a0 a1 a2 b0 b1 b2 c0 c1 c2 d0 d1 d2)), some (.py (.tuple [.int 0, .int 0, .int 1, .int 1])), some (.py (.list [.int 2, .int 3])), none, some (.py (.list [.int 0, .int 1])), some (.py (.list [.tuple [.int 2, .int 0], .tuple [.int 2, .int 1], .tuple [.int 3, .int 1], .tuple [.int 3, .int 0]])), some (.py (.int 3)), none, some (.py (.list [v3 (c0 + a0) (c1 + a1) (c2 + a2), v3 (c0 + b0) (c1 + b1) (c2 + b2), v3 (d0 + b0) (d1 + b1) (d2 + b2), v3 (d0 + a0) (d1 + a1) (d2 + a2)])), none, some (.py (v3 ((c0 + b0) - (c0 + a0)) ((c1 + b1) - (c1 + a1)) ((c2 + b2) - (c2 + a2)))), some (.py (v3 ((d0 + b0) - (c0 + a0)) ((d1 + b1) - (c1 + a1)) ((d2 + b2) - (c2 + a2)))), none]) s = some ([.py (v3 ((c0 + b0) - (c0 + a0)) ((c1 + b1) - (c1 + a1)) ((c2 + b2) - (c2 + a2))), .py (v3 ((d0 + b0) - (c0 + a0)) ((d1 + b1) - (c1 + a1)) ((d2 + b2) - (c2 + a2))), .py (v3 (a0 - c0) (a1 - c1) (a2 - c2))], s) := by kernel_rfl
theorem post_3 (a0 a1 a2 b0 b1 b2 c0 c1 c2 d0 d1 d2 : Int) (s : S) : denCs G__law_cycle rC ([some (.py (W4 a0 a1 a2 b0 b1 b2 c0 c1 c2 d0 d1 d2)), some (.py (.tuple [.int 0, .int 0, .int 1, .int 1])), some (.py (.list [.int 2, .int 3])), none, some (.py (.list [.int 0, .int 1])), some (.py (.list [.tuple [.int 2, .int 0], .tuple [.int 2, .int 1], .tuple [.int 3, .int 1], .tuple [.int 3, .int 0]])), some (.py (.int 3)), none, some (.py (.list [v3 (c0 + a0) (c1 + a1) (c2 + a2), v3 (c0 + b0) (c1 + b1) (c2 + b2), v3 (d0 + b0) (d1 + b1) (d2 + b2), v3 (d0 + a0) (d1 + a1) (d2 + a2)])), none, some (.py (v3 ((c0 + b0) - (c0 + a0)) ((c1 + b1) - (c1 + a1)) ((c2 + b2) - (c2 + a2)))), some (.py (v3 ((d0 + b0) - (c0 + a0)) ((d1 + b1) - (c1 + a1)) ((d2 + b2) - (c2 + a2)))), none]) s = some (.rt (.py (.tuple [.tuple [.int 2, .int 0], .tuple [.int 2, .int 1], .tuple [.int 3, .int 1], .tuple [.int 3, .int 0]])) s) := by kernel_rfl
theorem cyc_3 {a0 a1 a2 b0 b1 b2 c0 c1 c2 d0 d1 d2 : Int} (ha0 : Pt a0) (ha1 : Pt a1) (ha2 : Pt a2) (hb0 : Pt b0) (hb1 : Pt b1) (hb2 : Pt b2) (hc0 : Pt c0) (hc1 : Pt c1) (hc2 : Pt c2) (hd0 : Pt d0) (hd1 : Pt d1) (hd2 : Pt d2) (six : 0 < detI (b0 - a0) (b1 - a1) (b2 - a2) (c0 - a0) (c1 - a1) (c2 - a2) (d0 - a0) (d1 - a1) (d2 - a2)) (s : S) : d__law_cycle [.py (W4 a0 a1 a2 b0 b1 b2 c0 c1 c2 d0 d1 d2), .py (.tuple [.int 0, .int 0, .int 1, .int 1])] s = some (.py (.tuple [.tuple [.int 2, .int 0], .tuple [.int 2, .int 1], .tuple [.int 3, .int 1], .tuple [.int 3, .int 0]]), s) := by
  have hd := det_eq (a := ((c0 + b0) - (c0 + a0))) (b := ((c1 + b1) - (c1 + a1))) (c := ((c2 + b2) - (c2 + a2))) (d := ((d0 + b0) - (c0 + a0))) (e := ((d1 + b1) - (c1 + a1))) (f := ((d2 + b2) - (c2 + a2))) (g := (a0 - c0)) (h := (a1 - c1)) (i := (a2 - c2)) ⟨by have := hc0.1; have := hc0.2; have := hb0.1; have := hb0.2; have := hc0.1; have := hc0.2; have := ha0.1; have := ha0.2; omega, by have := hc0.1; have := hc0.2; have := hb0.1; have := hb0.2; have := hc0.1; have := hc0.2; have := ha0.1; have := ha0.2; omega⟩ ⟨by have := hc1.1; have := hc1.2; have := hb1.1; have := hb1.2; have := hc1.1; have := hc1.2; have := ha1.1; have := ha1.2; omega, by have := hc1.1; have := hc1.2; have := hb1.1; have := hb1.2; have := hc1.1; have := hc1.2; have := ha1.1; have := ha1.2; omega⟩ ⟨by have := hc2.1; have := hc2.2; have := hb2.1; have := hb2.2; have := hc2.1; have := hc2.2; have := ha2.1; have := ha2.2; omega, by have := hc2.1; have := hc2.2; have := hb2.1; have := hb2.2; have := hc2.1; have := hc2.2; have := ha2.1; have := ha2.2; omega⟩ ⟨by have := hd0.1; have := hd0.2; have := hb0.1; have := hb0.2; have := hc0.1; have := hc0.2; have := ha0.1; have := ha0.2; omega, by have := hd0.1; have := hd0.2; have := hb0.1; have := hb0.2; have := hc0.1; have := hc0.2; have := ha0.1; have := ha0.2; omega⟩ ⟨by have := hd1.1; have := hd1.2; have := hb1.1; have := hb1.2; have := hc1.1; have := hc1.2; have := ha1.1; have := ha1.2; omega, by have := hd1.1; have := hd1.2; have := hb1.1; have := hb1.2; have := hc1.1; have := hc1.2; have := ha1.1; have := ha1.2; omega⟩ ⟨by have := hd2.1; have := hd2.2; have := hb2.1; have := hb2.2; have := hc2.1; have := hc2.2; have := ha2.1; have := ha2.2; omega, by have := hd2.1; have := hd2.2; have := hb2.1; have := hb2.2; have := hc2.1; have := hc2.2; have := ha2.1; have := ha2.2; omega⟩ s
  have hT : denT G__law_cycle (.cmpT (.cm .lt) (.fn 1 esC) (.litI 0)) ([some (.py (W4 a0 a1 a2 b0 b1 b2 c0 c1 c2 d0 d1 d2)), some (.py (.tuple [.int 0, .int 0, .int 1, .int 1])), some (.py (.list [.int 2, .int 3])), none, some (.py (.list [.int 0, .int 1])), some (.py (.list [.tuple [.int 2, .int 0], .tuple [.int 2, .int 1], .tuple [.int 3, .int 1], .tuple [.int 3, .int 0]])), some (.py (.int 3)), none, some (.py (.list [v3 (c0 + a0) (c1 + a1) (c2 + a2), v3 (c0 + b0) (c1 + b1) (c2 + b2), v3 (d0 + b0) (d1 + b1) (d2 + b2), v3 (d0 + a0) (d1 + a1) (d2 + a2)])), none, some (.py (v3 ((c0 + b0) - (c0 + a0)) ((c1 + b1) - (c1 + a1)) ((c2 + b2) - (c2 + a2)))), some (.py (v3 ((d0 + b0) - (c0 + a0)) ((d1 + b1) - (c1 + a1)) ((d2 + b2) - (c2 + a2)))), none]) s = some (false, s) := by
    rw [cmp_ints (fn_val rfl (arg_3 a0 a1 a2 b0 b1 b2 c0 c1 c2 d0 d1 d2 s) rfl hd)]
    rw [sgn_3]
    generalize detI (b0 - a0) (b1 - a1) (b2 - a2) (c0 - a0) (c1 - a1) (c2 - a2) (d0 - a0) (d1 - a1) (d2 - a2) = x at six
    rw [show Cm.ints .lt (1 * x) 0 = false from decide_eq_false (by omega)]
  refine fn_of_rt ?_
  rw [steps_ok 9 (pre_3 a0 a1 a2 b0 b1 b2 c0 c1 c2 d0 d1 d2 s), restC]
  rw [cons_nx ((ifc_false hT).trans (show denCs G__law_cycle .nil _ s = some (Out.nx _ s) from rfl))]
  exact post_3 a0 a1 a2 b0 b1 b2 c0 c1 c2 d0 d1 d2 s
theorem sgn_4 (a0 a1 a2 b0 b1 b2 c0 c1 c2 d0 d1 d2 : Int) : detI ((b0 + c0) - (b0 + a0)) ((b1 + c1) - (b1 + a1)) ((b2 + c2) - (b2 + a2)) ((b0 + d0) - (b0 + a0)) ((b1 + d1) - (b1 + a1)) ((b2 + d2) - (b2 + a2)) (a0 - b0) (a1 - b1) (a2 - b2) = -1 * detI (b0 - a0) (b1 - a1) (b2 - a2) (c0 - a0) (c1 - a1) (c2 - a2) (d0 - a0) (d1 - a1) (d2 - a2) := by
  unfold detI
  grind
theorem pre_4 (a0 a1 a2 b0 b1 b2 c0 c1 c2 d0 d1 d2 : Int) (s : S) : steps G__law_cycle 9 c__law_cycle (Rf.envOf 13 [.py (W4 a0 a1 a2 b0 b1 b2 c0 c1 c2 d0 d1 d2), .py (.tuple [.int 0, .int 1, .int 0, .int 0])]) s = some ([some (.py (W4 a0 a1 a2 b0 b1 b2 c0 c1 c2 d0 d1 d2)), some (.py (.tuple [.int 0, .int 1, .int 0, .int 0])), some (.py (.list [.int 1])), none, some (.py (.list [.int 0, .int 2, .int 3])), some (.py (.list [.tuple [.int 1, .int 0], .tuple [.int 1, .int 2], .tuple [.int 1, .int 3]])), some (.py (.int 1)), none, some (.py (.list [v3 (b0 + a0) (b1 + a1) (b2 + a2), v3 (b0 + c0) (b1 + c1) (b2 + c2), v3 (b0 + d0) (b1 + d1) (b2 + d2)])), none, some (.py (v3 ((b0 + c0) - (b0 + a0)) ((b1 + c1) - (b1 + a1)) ((b2 + c2) - (b2 + a2)))), some (.py (v3 ((b0 + d0) - (b0 + a0)) ((b1 + d1) - (b1 + a1)) ((b2 + d2) - (b2 + a2)))), none], s) := by kernel_rfl
theorem arg_4 (a0 a1 a2 b0 b1 b2 c0 c1 c2 d0 d1 d2 : Int) (s : S) : denEs G__law_cycle esC ([some (.py (W4 a0 a1 a2 b0 b1 b2 c0 c1 c2 d0 d1 d2)), some (.py (.tuple [.int 0, .int 1, .int 0, .int 0])), some (.py (.list [.int 1])), none, some (.py (.list [.int 0, .int 2, .int 3])), some (.py (.list [.tuple [.int 1, .int 0], .tuple [.int 1, .int 2], .tuple [.int 1, .int 3]])), some (.py (.int 1)), none, some (.py (.list [v3 (b0 + a0) (b1 + a1) (b2 + a2), v3 (b0 + c0) (b1 + c1) (b2 + c2), v3 (b0 + d0) (b1 + d1) (b2 + d2)])), none, some (.py (v3 ((b0 + c0) - (b0 + a0)) ((b1 + c1) - (b1 + a1)) ((b2 + c2) - (b2 + a2)))), some (.py (v3 ((b0 + d0) - (b0 + a0)) ((b1 + d1) - (b1 + a1)) ((b2 + d2) - (b2 + a2)))), none]) s = some ([.py (v3 ((b0 + c0) - (b0 + a0)) ((b1 + c1) - (b1 + a1)) ((b2 + c2) - (b2 + a2))), .py (v3 ((b0 + d0) - (b0 + a0)) ((b1 + d1) - (b1 + a1)) ((b2 + d2) - (b2 + a2))), .py (v3 (a0 - b0) (a1 - b1) (a2 - b2))], s) := by kernel_rfl
theorem mid_4 (a0 a1 a2 b0 b1 b2 c0 c1 c2 d0 d1 d2 : Int) (s : S) : denCs G__law_cycle aC ([some (.py (W4 a0 a1 a2 b0 b1 b2 c0 c1 c2 d0 d1 d2)), some (.py (.tuple [.int 0, .int 1, .int 0, .int 0])), some (.py (.list [.int 1])), none, some (.py (.list [.int 0, .int 2, .int 3])), some (.py (.list [.tuple [.int 1, .int 0], .tuple [.int 1, .int 2], .tuple [.int 1, .int 3]])), some (.py (.int 1)), none, some (.py (.list [v3 (b0 + a0) (b1 + a1) (b2 + a2), v3 (b0 + c0) (b1 + c1) (b2 + c2), v3 (b0 + d0) (b1 + d1) (b2 + d2)])), none, some (.py (v3 ((b0 + c0) - (b0 + a0)) ((b1 + c1) - (b1 + a1)) ((b2 + c2) - (b2 + a2)))), some (.py (v3 ((b0 + d0) - (b0 + a0)) ((b1 + d1) - (b1 + a1)) ((b2 + d2) - (b2 + a2)))), none]) s = some (.nx ([some (.py (W4 a0 a1 a2 b0 b1 b2 c0 c1 c2 d0 d1 d2)), some (.py (.tuple [.int 0, .int 1, .int 0, .int 0])), some (.py (.list [.int 1])), none, some (.py (.list [.int 0, .int 2, .int 3])), some (.py (.list [.tuple [.int 1, .int 3], .tuple [.int 1, .int 2], .tuple [.int 1, .int 0]])), some (.py (.int 1)), none, some (.py (.list [v3 (b0 + a0) (b1 + a1) (b2 + a2), v3 (b0 + c0) (b1 + c1) (b2 + c2), v3 (b0 + d0) (b1 + d1) (b2 + d2)])), none, some (.py (v3 ((b0 + c0) - (b0 + a0)) ((b1 + c1) - (b1 + a1)) ((b2 + c2) - (b2 + a2)))), some (.py (v3 ((b0 + d0) - (b0 + a0)) ((b1 + d1) - (b1 + a1)) ((b2 + d2) - (b2 + a2)))), none]) s) := by kernel_rfl
theorem post_4 (a0 a1 a2 b0 b1 b2 c0 c1 c2 d0 d1 d2 : Int) (s : S) : denCs G__law_cycle rC ([some (.py (W4 a0 a1 a2 b0 b1 b2 c0 c1 c2 d0 d1 d2)), some (.py (.tuple [.int 0, .int 1, .int 0, .int 0])), some (.py (.list [.int 1])), none, some (.py (.list [.int 0, .int 2, .int 3])), some (.py (.list [.tuple [.int 1, .int 3], .tuple [.int 1, .int 2], .tuple [.int 1, .int 0]])), some (.py (.int 1)), none, some (.py (.list [v3 (b0 + a0) (b1 + a1) (b2 + a2), v3 (b0 + c0) (b1 + c1) (b2 + c2), v3 (b0 + d0) (b1 + d1) (b2 + d2)])), none, some (.py (v3 ((b0 + c0) - (b0 + a0)) ((b1 + c1) - (b1 + a1)) ((b2 + c2) - (b2 + a2)))), some (.py (v3 ((b0 + d0) - (b0 + a0)) ((b1 + d1) - (b1 + a1)) ((b2 + d2) - (b2 + a2)))), none]) s = some (.rt (.py (.tuple [.tuple [.int 1, .int 0], .tuple [.int 1, .int 3], .tuple [.int 1, .int 2]])) s) := by kernel_rfl
theorem cyc_4 {a0 a1 a2 b0 b1 b2 c0 c1 c2 d0 d1 d2 : Int} (ha0 : Pt a0) (ha1 : Pt a1) (ha2 : Pt a2) (hb0 : Pt b0) (hb1 : Pt b1) (hb2 : Pt b2) (hc0 : Pt c0) (hc1 : Pt c1) (hc2 : Pt c2) (hd0 : Pt d0) (hd1 : Pt d1) (hd2 : Pt d2) (six : 0 < detI (b0 - a0) (b1 - a1) (b2 - a2) (c0 - a0) (c1 - a1) (c2 - a2) (d0 - a0) (d1 - a1) (d2 - a2)) (s : S) : d__law_cycle [.py (W4 a0 a1 a2 b0 b1 b2 c0 c1 c2 d0 d1 d2), .py (.tuple [.int 0, .int 1, .int 0, .int 0])] s = some (.py (.tuple [.tuple [.int 1, .int 0], .tuple [.int 1, .int 3], .tuple [.int 1, .int 2]]), s) := by
  have hd := det_eq (a := ((b0 + c0) - (b0 + a0))) (b := ((b1 + c1) - (b1 + a1))) (c := ((b2 + c2) - (b2 + a2))) (d := ((b0 + d0) - (b0 + a0))) (e := ((b1 + d1) - (b1 + a1))) (f := ((b2 + d2) - (b2 + a2))) (g := (a0 - b0)) (h := (a1 - b1)) (i := (a2 - b2)) ⟨by have := hb0.1; have := hb0.2; have := hc0.1; have := hc0.2; have := hb0.1; have := hb0.2; have := ha0.1; have := ha0.2; omega, by have := hb0.1; have := hb0.2; have := hc0.1; have := hc0.2; have := hb0.1; have := hb0.2; have := ha0.1; have := ha0.2; omega⟩ ⟨by have := hb1.1; have := hb1.2; have := hc1.1; have := hc1.2; have := hb1.1; have := hb1.2; have := ha1.1; have := ha1.2; omega, by have := hb1.1; have := hb1.2; have := hc1.1; have := hc1.2; have := hb1.1; have := hb1.2; have := ha1.1; have := ha1.2; omega⟩ ⟨by have := hb2.1; have := hb2.2; have := hc2.1; have := hc2.2; have := hb2.1; have := hb2.2; have := ha2.1; have := ha2.2; omega, by have := hb2.1; have := hb2.2; have := hc2.1; have := hc2.2; have := hb2.1; have := hb2.2; have := ha2.1; have := ha2.2; omega⟩ ⟨by have := hb0.1; have := hb0.2; have := hd0.1; have := hd0.2; have := hb0.1; have := hb0.2; have := ha0.1; have := ha0.2; omega, by have := hb0.1; have := hb0.2; have := hd0.1; have := hd0.2; have := hb0.1; have := hb0.2; have := ha0.1; have := ha0.2; omega⟩ ⟨by have := hb1.1; have := hb1.2; have := hd1.1; have := hd1.2; have := hb1.1; have := hb1.2; have := ha1.1; have := ha1.2; omega, by have := hb1.1; have := hb1.2; have := hd1.1; have := hd1.2; have := hb1.1; have := hb1.2; have := ha1.1; have := ha1.2; omega⟩ ⟨by have := hb2.1; have := hb2.2; have := hd2.1; have := hd2.2; have := hb2.1; have := hb2.2; have := ha2.1; have := ha2.2; omega, by have := hb2.1; have := hb2.2; have := hd2.1; have := hd2.2; have := hb2.1; have := hb2.2; have := ha2.1; have := ha2.2; omega⟩ s
  have hT : denT G__law_cycle (.cmpT (.cm .lt) (.fn 1 esC) (.litI 0)) ([some (.py (W4 a0 a1 a2 b0 b1 b2 c0 c1 c2 d0 d1 d2)), some (.py (.tuple [.int 0, .int 1, .int 0, .int 0])), some (.py (.list [.int 1])), none, some (.py (.list [.int 0, .int 2, .int 3])), some (.py (.list [.tuple [.int 1, .int 0], .tuple [.int 1, .int 2], .tuple [.int 1, .int 3]])), some (.py (.int 1)), none, some (.py (.list [v3 (b0 + a0) (b1 + a1) (b2 + a2), v3 (b0 + c0) (b1 + c1) (b2 + c2), v3 (b0 + d0) (b1 + d1) (b2 + d2)])), none, some (.py (v3 ((b0 + c0) - (b0 + a0)) ((b1 + c1) - (b1 + a1)) ((b2 + c2) - (b2 + a2)))), some (.py (v3 ((b0 + d0) - (b0 + a0)) ((b1 + d1) - (b1 + a1)) ((b2 + d2) - (b2 + a2)))), none]) s = some (true, s) := by
    rw [cmp_ints (fn_val rfl (arg_4 a0 a1 a2 b0 b1 b2 c0 c1 c2 d0 d1 d2 s) rfl hd)]
    rw [sgn_4]
    generalize detI (b0 - a0) (b1 - a1) (b2 - a2) (c0 - a0) (c1 - a1) (c2 - a2) (d0 - a0) (d1 - a1) (d2 - a2) = x at six
    rw [show Cm.ints .lt (-1 * x) 0 = true from decide_eq_true (by omega)]
  refine fn_of_rt ?_
  rw [steps_ok 9 (pre_4 a0 a1 a2 b0 b1 b2 c0 c1 c2 d0 d1 d2 s), restC]
  rw [cons_nx ((ifc_true hT).trans (mid_4 a0 a1 a2 b0 b1 b2 c0 c1 c2 d0 d1 d2 s))]
  exact post_4 a0 a1 a2 b0 b1 b2 c0 c1 c2 d0 d1 d2 s
theorem sgn_5 (a0 a1 a2 b0 b1 b2 c0 c1 c2 d0 d1 d2 : Int) : detI ((b0 + c0) - (b0 + a0)) ((b1 + c1) - (b1 + a1)) ((b2 + c2) - (b2 + a2)) ((d0 + c0) - (b0 + a0)) ((d1 + c1) - (b1 + a1)) ((d2 + c2) - (b2 + a2)) (a0 - b0) (a1 - b1) (a2 - b2) = -1 * detI (b0 - a0) (b1 - a1) (b2 - a2) (c0 - a0) (c1 - a1) (c2 - a2) (d0 - a0) (d1 - a1) (d2 - a2) := by
  unfold detI
  grind
theorem pre_5 (a0 a1 a2 b0 b1 b2 c0 c1 c2 d0 d1 d2 : Int) (s : S) : steps G__law_cycle 9 c__law_cycle (Rf.envOf 13 [.py (W4 a0 a1 a2 b0 b1 b2 c0 c1 c2 d0 d1 d2), .py (.tuple [.int 0, .int 1, .int 0, .int 1])]) s = some ([some (.py (W4 a0 a1 a2 b0 b1 b2 c0 c1 c2 d0 d1 d2)), some (.py (.tuple [.int 0, .int 1, .int 0, .int 1])), some (.py (.list [.int 1, .int 3])), none, some (.py (.list [.int 0, .int 2])), some (.py (.list [.tuple [.int 1, .int 0], .tuple [.int 1, .int 2], .tuple [.int 3, .int 2], .tuple [.int 3, .int 0]])), some (.py (.int 3)), none, some (.py (.list [v3 (b0 + a0) (b1 + a1) (b2 + a2), v3 (b0 + c0) (b1 + c1) (b2 + c2), v3 (d0 + c0) (d1 + c1) (d2 + c2), v3 (d0 + a0) (d1 + a1) (d2 + a2)])), none, some (.py (v3 ((b0 + c0) - (b0 + a0)) ((b1 + c1) - (b1 + a1)) ((b2 + c2) - (b2 + a2)))), some (.py (v3 ((d0 + c0) - (b0 + a0)) ((d1 + c1) - (b1 + a1)) ((d2 + c2) - (b2 + a2)))), none], s) := by kernel_rfl
theorem arg_5 (a0 a1 a2 b0 b1 b2 c0 c1 c2 d0 d1 d2 : Int) (s : S) : denEs G__law_cycle esC ([some (.py (W4 a0 a1 a2 b0 b1 b2 c0 c1 c2 d0 d1 d2)), some (.py (.tuple [.int 0, .int 1, .int 0, .int 1])), some (.py (.list [.int 1, .int 3])), none, some (.py (.list [.int 0, .int 2])), some (.py (.list [.tuple [.int 1, .int 0], .tuple [.int 1, .int 2], .tuple [.int 3, .int 2], .tuple [.int 3, .int 0]])), some (.py (.int 3)), none, some (.py (.list [v3 (b0 + a0) (b1 + a1) (b2 + a2), v3 (b0 + c0) (b1 + c1) (b2 + c2), v3 (d0 + c0) (d1 + c1) (d2 + c2), v3 (d0 + a0) (d1 + a1) (d2 + a2)])), none, some (.py (v3 ((b0 + c0) - (b0 + a0)) ((b1 + c1) - (b1 + a1)) ((b2 + c2) - (b2 + a2)))), some (.py (v3 ((d0 + c0) - (b0 + a0)) ((d1 + c1) - (b1 + a1)) ((d2 + c2) - (b2 + a2)))), none]) s = some ([.py (v3 ((b0 + c0) - (b0 + a0)) ((b1 + c1) - (b1 + a1)) ((b2 + c2) - (b2 + a2))), .py (v3 ((d0 + c0) - (b0 + a0)) ((d1 + c1) - (b1 + a1)) ((d2 + c2) - (b2 + a2))), .py (v3 (a0 - b0) (a1 - b1) (a2 - b2))], s) := by kernel_rfl
theorem mid_5 (a0 a1 a2 b0 b1 b2 c0 c1 c2 d0 d1 d2 : Int) (s : S) : denCs G__law_cycle aC ([some (.py (W4 a0 a1 a2 b0 b1 b2 c0 c1 c2 d0 d1 d2)), some (.py (.tuple [.int 0, .int 1, .int 0, .int 1])), some (.py (.list [.int 1, .int 3])), none, some (.py (.list [.int 0, .int 2])), some (.py (.list [.tuple [.int 1, .int 0], .tuple [.int 1, .int 2], .tuple [.int 3, .int 2], .tuple [.int 3, .int 0]])), some (.py (.int 3)), none, some (.py (.list [v3 (b0 + a0) (b1 + a1) (b2 + a2), v3 (b0 + c0) (b1 + c1) (b2 + c2), v3 (d0 + c0) (d1 + c1) (d2 + c2), v3 (d0 + a0) (d1 + a1) (d2 + a2)])), none, some (.py (v3 ((b0 + c0) - (b0 + a0)) ((b1 + c1) - (b1 + a1)) ((b2 + c2) - (b2 + a2)))), some (.py (v3 ((d0 + c0) - (b0 + a0)) ((d1 + c1) - (b1 + a1)) ((d2 + c2) - (b2 + a2)))), none]) s = some (.nx ([some (.py (W4 a0 a1 a2 b0 b1 b2 c0 c1 c2 d0 d1 d2)), some (.py (.tuple [.int 0, .int 1, .int 0, .int 1])), some (.py (.list [.int 1, .int 3])), none, some (.py (.list [.int 0, .int 2])), some (.py (.list [.tuple [.int 3, .int 0], .tuple [.int 3, .int 2], .tuple [.int 1, .int 2], .tuple [.int 1, .int 0]])), some (.py (.int 3)), none, some (.py (.list [v3 (b0 + a0) (b1 + a1) (b2 + a2), v3 (b0 + c0) (b1 + c1) (b2 + c2), v3 (d0 + c0) (d1 + c1) (d2 + c2), v3 (d0 + a0) (d1 + a1) (d2 + a2)])), none, some (.py (v3 ((b0 + c0) - (b0 + a0)) ((b1 + c1) - (b1 + a1)) ((b2 + c2) - (b2 + a2)))), some (.py (v3 ((d0 + c0) - (b0 + a0)) ((d1 + c1) - (b1 + a1)) ((d2 + c2) - (b2 + a2)))), none]) s) := by kernel_rfl
theorem post_5 (a0 a1 a2 b0 b1 b2 c0 c1 c2 d0 d1 d2 : Int) (s : S) : denCs G__law_cycle rC ([some (.py (W4 a0 a1 a2 b0 b1 b2 c0 c1 c2 d0 d1 d2)), some (.py (.tuple [.int 0, .int 1, .int 0, .int 1])), some (.py (.list [.int 1, .int 3])), none, some (.py (.list [.int 0, .int 2])), some (.py (.list [.tuple [.int 3, .int 0], .tuple [.int 3, .int 2], .tuple [.int 1, .int 2], .tuple [.int 1, .int 0]])), some (.py (.int 3)), none, some (.py (.list [v3 (b0 + a0) (b1 + a1) (b2 + a2), v3 (b0 + c0) (b1 + c1) (b2 + c2), v3 (d0 + c0) (d1 + c1) (d2 + c2), v3 (d0 + a0) (d1 + a1) (d2 + a2)])), none, some (.py (v3 ((b0 + c0) - (b0 + a0)) ((b1 + c1) - (b1 + a1)) ((b2 + c2) - (b2 + a2)))), some (.py (v3 ((d0 + c0) - (b0 + a0)) ((d1 + c1) - (b1 + a1)) ((d2 + c2) - (b2 + a2)))), none]) s = some (.rt (.py (.tuple [.tuple [.int 1, .int 0], .tuple [.int 3, .int 0], .tuple [.int 3, .int 2], .tuple [.int 1, .int 2]])) s) := by kernel_rfl
theorem cyc_5 {a0 a1 a2 b0 b1 b2 c0 c1 c2 d0 d1 d2 : Int} (ha0 : Pt a0) (ha1 : Pt a1) (ha2 : Pt a2) (hb0 : Pt b0) (hb1 : Pt b1) (hb2 : Pt b2) (hc0 : Pt c0) (hc1 : Pt c1) (hc2 : Pt c2) (hd0 : Pt d0) (hd1 : Pt d1) (hd2 : Pt d2) (six : 0 < detI (b0 - a0) (b1 - a1) (b2 - a2) (c0 - a0) (c1 - a1) (c2 - a2) (d0 - a0) (d1 - a1) (d2 - a2)) (s : S) : d__law_cycle [.py (W4 a0 a1 a2 b0 b1 b2 c0 c1 c2 d0 d1 d2), .py (.tuple [.int 0, .int 1, .int 0, .int 1])] s = some (.py (.tuple [.tuple [.int 1, .int 0], .tuple [.int 3, .int 0], .tuple [.int 3, .int 2], .tuple [.int 1, .int 2]]), s) := by
  have hd := det_eq (a := ((b0 + c0) - (b0 + a0))) (b := ((b1 + c1) - (b1 + a1))) (c := ((b2 + c2) - (b2 + a2))) (d := ((d0 + c0) - (b0 + a0))) (e := ((d1 + c1) - (b1 + a1))) (f := ((d2 + c2) - (b2 + a2))) (g := (a0 - b0)) (h := (a1 - b1)) (i := (a2 - b2)) ⟨by have := hb0.1; have := hb0.2; have := hc0.1; have := hc0.2; have := hb0.1; have := hb0.2; have := ha0.1; have := ha0.2; omega, by have := hb0.1; have := hb0.2; have := hc0.1; have := hc0.2; have := hb0.1; have := hb0.2; have := ha0.1; have := ha0.2; omega⟩ ⟨by have := hb1.1; have := hb1.2; have := hc1.1; have := hc1.2; have := hb1.1; have := hb1.2; have := ha1.1; have := ha1.2; omega, by have := hb1.1; have := hb1.2; have := hc1.1; have := hc1.2; have := hb1.1; have := hb1.2; have := ha1.1; have := ha1.2; omega⟩ ⟨by have := hb2.1; have := hb2.2; have := hc2.1; have := hc2.2; have := hb2.1; have := hb2.2; have := ha2.1; have := ha2.2; omega, by have := hb2.1; have := hb2.2; have := hc2.1; have := hc2.2; have := hb2.1; have := hb2.2; have := ha2.1; have := ha2.2; omega⟩ ⟨by have := hd0.1; have := hd0.2; have := hc0.1; have := hc0.2; have := hb0.1; have := hb0.2; have := ha0.1; have := ha0.2; omega, by have := hd0.1; have := hd0.2; have := hc0.1; have := hc0.2; have := hb0.1; have := hb0.2; have := ha0.1; have := ha0.2; omega⟩ ⟨by have := hd1.1; have := hd1.2; have := hc1.1; have := hc1.2; have := hb1.1; have := hb1.2; have := ha1.1; have := ha1.2; omega, by have := hd1.1; have := hd1.2; have := hc1.1; have := hc1.2; have := hb1.1; have := hb1.2; have := ha1.1; have := ha1.2; omega⟩ ⟨by have := hd2.1; have := hd2.2; have := hc2.1; have := hc2.2; have := hb2.1; have := hb2.2; have := ha2.1; have := ha2.2; omega, by have := hd2.1; have := hd2.2; have := hc2.1; have := hc2.2; have := hb2.1; have := hb2.2; have := ha2.1; have := ha2.2; omega⟩ s
  have hT : denT G__law_cycle (.cmpT (.cm .lt) (.fn 1 esC) (.litI 0)) ([some (.py (W4 a0 a1 a2 b0 b1 b2 c0 c1 c2 d0 d1 d2)), some (.py (.tuple [.int 0, .int 1, .int 0, .int 1])), some (.py (.list [.int 1, .int 3])), none, some (.py (.list [.int 0, .int 2])), some (.py (.list [.tuple [.int 1, .int 0], .tuple [.int 1, .int 2], .tuple [.int 3, .int 2], .tuple [.int 3, .int 0]])), some (.py (.int 3)), none, some (.py (.list [v3 (b0 + a0) (b1 + a1) (b2 + a2), v3 (b0 + c0) (b1 + c1) (b2 + c2), v3 (d0 + c0) (d1 + c1) (d2 + c2), v3 (d0 + a0) (d1 + a1) (d2 + a2)])), none, some (.py (v3 ((b0 + c0) - (b0 + a0)) ((b1 + c1) - (b1 + a1)) ((b2 + c2) - (b2 + a2)))), some (.py (v3 ((d0 + c0) - (b0 + a0)) ((d1 + c1) - (b1 + a1)) ((d2 + c2) - (b2 + a2)))), none]) s = some (true, s) := by
    rw [cmp_ints (fn_val rfl (arg_5 a0 a1 a2 b0 b1 b2 c0 c1 c2 d0 d1 d2 s) rfl hd)]
    rw [sgn_5]
    generalize detI (b0 - a0) (b1 - a1) (b2 - a2) (c0 - a0) (c1 - a1) (c2 - a2) (d0 - a0) (d1 - a1) (d2 - a2) = x at six
    rw [show Cm.ints .lt (-1 * x) 0 = true from decide_eq_true (by omega)]
  refine fn_of_rt ?_
  rw [steps_ok 9 (pre_5 a0 a1 a2 b0 b1 b2 c0 c1 c2 d0 d1 d2 s), restC]
  rw [cons_nx ((ifc_true hT).trans (mid_5 a0 a1 a2 b0 b1 b2 c0 c1 c2 d0 d1 d2 s))]
  exact post_5 a0 a1 a2 b0 b1 b2 c0 c1 c2 d0 d1 d2 s
theorem sgn_6 (a0 a1 a2 b0 b1 b2 c0 c1 c2 d0 d1 d2 : Int) : detI ((b0 + d0) - (b0 + a0)) ((b1 + d1) - (b1 + a1)) ((b2 + d2) - (b2 + a2)) ((c0 + d0) - (b0 + a0)) ((c1 + d1) - (b1 + a1)) ((c2 + d2) - (b2 + a2)) (a0 - b0) (a1 - b1) (a2 - b2) = 1 * detI (b0 - a0) (b1 - a1) (b2 - a2) (c0 - a0) (c1 - a1) (c2 - a2) (d0 - a0) (d1 - a1) (d2 - a2) := by
  unfold detI
  grind
theorem pre_6 (a0 a1 a2 b0 b1 b2 c0 c1 c2 d0 d1 d2 : Int) (s : S) : steps G__law_cycle 9 c__law_cycle (Rf.envOf 13 [.py (W4 a0 a1 a2 b0 b1 b2 c0 c1 c2 d0 d1 d2), .py (.tuple [.int 0, .int 1, .int 1, .int 0])]) s = some ([some (.py (W4 a0 a1 a2 b0 b1 b2 c0 c1 c2 d0 d1 d2)), some (.py (.tuple [.int 0, .int 1, .int 1, .int 0])), some (.py (.list [.int 1, .int 2])), none, some (.py (.list [.int 0, .int 3])), some (.py (.list [.tuple [.int 1, .int 0], .tuple [.int 1, .int 3], .tuple [.int 2, .int 3], .tuple [.int 2, .int 0]])), some (.py (.int 2)), none, some (.py (.list [v3 (b0 + a0) (b1 + a1) (b2 + a2), v3 (b0 + d0) (b1 + d1) (b2 + d2), v3 (c0 + d0) (c1 + d1) (c2 + d2), v3 (c0 + a0) (c1 + a1) (c2 + a2)])), none, some (.py (v3 ((b0 + d0) - (b0 + a0)) ((b1 + d1) - (b1 + a1)) ((b2 + d2) - (b2 + a2)))), some (.py (v3 ((c0 + d0) - (b0 + a0)) ((c1 + d1) - (b1 + a1)) ((c2 + d2) - (b2 + a2)))), none], s) := by kernel_rfl
theorem arg_6 (a0 a1 a2 b0 b1 b2 c0 c1 c2 d0 d1 d2 : Int) (s : S) : denEs G__law_cycle esC ([some (.py (W4 a0 a1 a2 b0 b1 b2 c0 c1 c2 d0 d1 d2)), some (.py (.tuple [.int 0, .int 1, .int 1, .int 0])), some (.py (.list [.int 1, .int 2])), none, some (.py (.list [.int 0, .int 3])), some (.py (.list [.tuple [.int 1, .int 0], .tuple [.int 1, .int 3], .tuple [.int 2, .int 3], .tuple [.int 2, .int 0]])), some (.py (.int 2)), none, some (.py (.list [v3 (b0 + a0) (b1 + a1) (b2 + a2), v3 (b0 + d0) (b1 + d1) (b2 + d2), v3 (c0 + d0) (c1 + d1) (c2 + d2), v3 (c0 + a0) (c1 + a1) (c2 + a2)])), none, some (.py (v3 ((b0 + d0) - (b0 + a0)) ((b1 + d1) - (b1 + a1)) ((b2 + d2) - (b2 + a2)))), some (.py (v3 ((c0 + d0) - (b0 + a0)) ((c1 + d1) - (b1 + a1)) ((c2 + d2) - (b2 + a2)))), none]) s = some ([.py (v3 ((b0 + d0) - (b0 + a0)) ((b1 + d1) - (b1 + a1)) ((b2 + d2) - (b2 + a2))), .py (v3 ((c0 + d0) - (b0 + a0)) ((c1 + d1) - (b1 + a1)) ((c2 + d2) - (b2 + a2))), .py (v3 (a0 - b0) (a1 - b1) (a2 - b2))], s) := by kernel_rfl
theorem post_6 (a0 a1 a2 b0 b1 b2 c0 c1 c2 d0 d1 d2 : Int) (s : S) : denCs G__law_cycle rC ([some (.py (W4 a0 a1 a2 b0 b1 b2 c0 c1 c2 d0 d1 d2)), some (.py (.tuple [.int 0, .int 1, .int 1, .int 0])), some (.py (.list [.int 1, .int 2])), none, some (.py (.list [.int 0, .int 3])), some (.py (.list [.tuple [.int 1, .int 0], .tuple [.int 1, .int 3], .tuple [.int 2, .int 3], .tuple [.int 2, .int 0]])), some (.py (.int 2)), none, some (.py (.list [v3 (b0 + a0) (b1 + a1) (b2 + a2), v3 (b0 + d0) (b1 + d1) (b2 + d2), v3 (c0 + d0) (c1 + d1) (c2 + d2), v3 (c0 + a0) (c1 + a1) (c2 + a2)])), none, some (.py (v3 ((b0 + d0) - (b0 + a0)) ((b1 + d1) - (b1 + a1)) ((b2 + d2) - (b2 + a2)))), some (.py (v3 ((c0 + d0) - (b0 + a0)) ((c1 + d1) - (b1 + a1)) ((c2 + d2) - (b2 + a2)))), none]) s = some (.rt (.py (.tuple [.tuple [.int 1, .int 0], .tuple [.int 1, .int 3], .tuple [.int 2, .int 3], .tuple [.int 2, .int 0]])) s) := by kernel_rfl
theorem cyc_6 {a0 a1 a2 b0 b1 b2 c0 c1 c2 d0 d1 d2 : Int} (ha0 : Pt a0) (ha1 : Pt a1) (ha2 : Pt a2) (hb0 : Pt b0) (hb1 : Pt b1) (hb2 : Pt b2) (hc0 : Pt c0) (hc1 : Pt c1) (hc2 : Pt c2) (hd0 : Pt d0) (hd1 : Pt d1) (hd2 : Pt d2) (six : 0 < detI (b0 - a0) (b1 - a1) (b2 - a2) (c0 - a0) (c1 - a1) (c2 - a2) (d0 - a0) (d1 - a1) (d2 - a2)) (s : S) : d__law_cycle [.py (W4 a0 a1 a2 b0 b1 b2 c0 c1 c2 d0 d1 d2), .py (.tuple [.int 0, .int 1, .int 1, .int 0])] s = some (.py (.tuple [.tuple [.int 1, .int 0], .tuple [.int 1, .int 3], .tuple [.int 2, .int 3], .tuple [.int 2, .int 0]]), s) := by
  have hd := det_eq (a := ((b0 + d0) - (b0 + a0))) (b := ((b1 + d1) - (b1 + a1))) (c := ((b2 + d2) - (b2 + a2))) (d := ((c0 + d0) - (b0 + a0))) (e := ((c1 + d1) - (b1 + a1))) (f := ((c2 + d2) - (b2 + a2))) (g := (a0 - b0)) (h := (a1 - b1)) (i := (a2 - b2)) ⟨by have := hb0.1; have := hb0.2; have := hd0.1; have := hd0.2; have := hb0.1; have := hb0.2; have := ha0.1; have := ha0.2; omega, by have := hb0.1; have := hb0.2; have := hd0.1; have := hd0.2; have := hb0.1; have := hb0.2; have := ha0.1; have := ha0.2; omega⟩ ⟨by have := hb1.1; have := hb1.2; have := hd1.1; have := hd1.2; have := hb1.1; have := hb1.2; have := ha1.1; have := ha1.2; omega, by have := hb1.1; have := hb1.2; have := hd1.1; have := hd1.2; have := hb1.1; have := hb1.2; have := ha1.1; have := ha1.2; omega⟩ ⟨by have := hb2.1; have := hb2.2; have := hd2.1; have := hd2.2; have := hb2.1; have := hb2.2; have := ha2.1; have := ha2.2; omega, by have := hb2.1; have := hb2.2; have := hd2.1; have := hd2.2; have := hb2.1; have := hb2.2; have := ha2.1; have := ha2.2; omega⟩ ⟨by have := hc0.1; have := hc0.2; have := hd0.1; have := hd0.2; have := hb0.1; have := hb0.2; have := ha0.1; have := ha0.2; omega, by have := hc0.1; have := hc0.2; have := hd0.1; have := hd0.2; have := hb0.1; have := hb0.2; have := ha0.1; have := ha0.2; omega⟩ ⟨by have := hc1.1; have := hc1.2; have := hd1.1; have := hd1.2; have := hb1.1; have := hb1.2; have := ha1.1; have := ha1.2; omega, by have := hc1.1; have := hc1.2; have := hd1.1; have := hd1.2; have := hb1.1; have := hb1.2; have := ha1.1; have := ha1.2; omega⟩ ⟨by have := hc2.1; have := hc2.2; have := hd2.1; have := hd2.2; have := hb2.1; have := hb2.2; have := ha2.1; have := ha2.2; omega, by have := hc2.1; have := hc2.2; have := hd2.1; have := hd2.2; have := hb2.1; have := hb2.2; have := ha2.1; have := ha2.2; omega⟩ s
  have hT : denT G__law_cycle (.cmpT (.cm .lt) (.fn 1 esC) (.litI 0)) ([some (.py (W4 a0 a1 a2 b0 b1 b2 c0 c1 c2 d0 d1 d2)), some (.py (.tuple [.int 0, .int 1, .int 1, .int 0])), some (.py (.list [.int 1, .int 2])), none, some (.py (.list [.int 0, .int 3])), some (.py (.list [.tuple [.int 1, .int 0], .tuple [.int 1, .int 3], .tuple [.int 2, .int 3], .tuple [.int 2, .int 0]])), some (.py (.int 2)), none, some (.py (.list [v3 (b0 + a0) (b1 + a1) (b2 + a2), v3 (b0 + d0) (b1 + d1) (b2 + d2), v3 (c0 + d0) (c1 + d1) (c2 + d2), v3 (c0 + a0) (c1 + a1) (c2 + a2)])), none, some (.py (v3 ((b0 + d0) - (b0 + a0)) ((b1 + d1) - (b1 + a1)) ((b2 + d2) - (b2 + a2)))), some (.py (v3 ((c0 + d0) - (b0 + a0)) ((c1 + d1) - (b1 + a1)) ((c2 + d2) - (b2 + a2)))), none]) s = some (false, s) := by
    rw [cmp_ints (fn_val rfl (arg_6 a0 a1 a2 b0 b1 b2 c0 c1 c2 d0 d1 d2 s) rfl hd)]
    rw [sgn_6]
    generalize detI (b0 - a0) (b1 - a1) (b2 - a2) (c0 - a0) (c1 - a1) (c2 - a2) (d0 - a0) (d1 - a1) (d2 - a2) = x at six
    rw [show Cm.ints .lt (1 * x) 0 = false from decide_eq_false (by omega)]
  refine fn_of_rt ?_
  rw [steps_ok 9 (pre_6 a0 a1 a2 b0 b1 b2 c0 c1 c2 d0 d1 d2 s), restC]
  rw [cons_nx ((ifc_false hT).trans (show denCs G__law_cycle .nil _ s = some (Out.nx _ s) from rfl))]
  exact post_6 a0 a1 a2 b0 b1 b2 c0 c1 c2 d0 d1 d2 s
theorem sgn_7 (a0 a1 a2 b0 b1 b2 c0 c1 c2 d0 d1 d2 : Int) : detI ((c0 + a0) - (b0 + a0)) ((c1 + a1) - (b1 + a1)) ((c2 + a2) - (b2 + a2)) ((d0 + a0) - (b0 + a0)) ((d1 + a1) - (b1 + a1)) ((d2 + a2) - (b2 + a2)) (a0 - b0) (a1 - b1) (a2 - b2) = -1 * detI (b0 - a0) (b1 - a1) (b2 - a2) (c0 - a0) (c1 - a1) (c2 - a2) (d0 - a0) (d1 - a1) (d2 - a2) := by
  unfold detI
  grind
theorem pre_7 (a0 a1 a2 b0 b1 b2 c0 c1 c2 d0 d1 d2 : Int) (s : S) : steps G__law_cycle 9 c__law_cycle (Rf.envOf 13 [.py (W4 a0 a1 a2 b0 b1 b2 c0 c1 c2 d0 d1 d2), .py (.tuple [.int 0, .int 1, .int 1, .int 1])]) s = some ([some (.py (W4 a0 a1 a2 b0 b1 b2 c0 c1 c2 d0 d1 d2)), some (.py (.tuple [.int 0, .int 1, .int 1, .int 1])), some (.py (.list [.int 1, .int 2, .int 3])), none, some (.py (.list [.int 0])), some (.py (.list [.tuple [.int 1, .int 0], .tuple [.int 2, .int 0], .tuple [.int 3, .int 0]])), some (.py (.int 3)), none, some (.py (.list [v3 (b0 + a0) (b1 + a1) (b2 + a2), v3 (c0 + a0) (c1 + a1) (c2 + a2), v3 (d0 + a0) (d1 + a1) (d2 + a2)])), none, some (.py (v3 ((c0 + a0) - (b0 + a0)) ((c1 + a1) - (b1 + a1)) ((c2 + a2) - (b2 + a2)))), some (.py (v3 ((d0 + a0) - (b0 + a0)) ((d1 + a1) - (b1 + a1)) ((d2 + a2) - (b2 + a2)))), none], s) := by kernel_rfl
theorem arg_7 (a0 a1 a2 b0 b1 b2 c0 c1 c2 d0 d1 d2 : Int) (s : S) : denEs G__law_cycle esC ([some (.py (W4 a0 a1 a2 b0 b1 b2 c0 c1 c2 d0 d1 d2)), some (.py (.tuple [.int 0, .int 1, .int 1, .int 1])), some (.py (.list [.int 1, .int 2, .int 3])), none, some (.py (.list [.int 0])), some (.py (.list [.tuple [.int 1, .int 0], .tuple [.int 2, .int 0], .tuple [.int 3, .int 0]])), some (.py (.int 3)), none, some (.py (.list [v3 (b0 + a0) (b1 + a1) (b2 + a2), v3 (c0 + a0) (c1 + a1) (c2 + a2), v3 (d0 + a0) (d1 + a1) (d2 + a2)])), none, some (.py (v3 ((c0 + a0) - (b0 + a0)) ((c1 + a1) - (b1 + a1)) ((c2 + a2) - (b2 + a2)))), some (.py (v3 ((d0 + a0) - (b0 + a0)) ((d1 + a1) - (b1 + a1)) ((d2 + a2) - (b2 + a2)))), none]) s = some ([.py (v3 ((c0 + a0) - (b0 + a0)) ((c1 + a1) - (b1 + a1)) ((c2 + a2) - (b2 + a2))), .py (v3 ((d0 + a0) - (b0 + a0)) ((d1 + a1) - (b1 + a1)) ((d2 + a2) - (b2 + a2))), .py (v3 (a0 - b0) (a1 - b1) (a2 - b2))], s) := by kernel_rfl
theorem mid_7 (a0 a1 a2 b0 b1 b2 c0 c1 c2 d0 d1 d2 : Int) (s : S) : denCs G__law_cycle aC ([some (.py (W4 a0 a1 a2 b0 b1 b2 c0 c1 c2 d0 d1 d2)), some (.py (.tuple [.int 0, .int 1, .int 1, .int 1])), some (.py (.list [.int 1, .int 2, .int 3])), none, some (.py (.list [.int 0])), some (.py (.list [.tuple [.int 1, .int 0], .tuple [.int 2, .int 0], .tuple [.int 3, .int 0]])), some (.py (.int 3)), none, some (.py (.list [v3 (b0 + a0) (b1 + a1) (b2 + a2), v3 (c0 + a0) (c1 + a1) (c2 + a2), v3 (d0 + a0) (d1 + a1) (d2 + a2)])), none, some (.py (v3 ((c0 + a0) - (b0 + a0)) ((c1 + a1) - (b1 + a1)) ((c2 + a2) - (b2 + a2)))), some (.py (v3 ((d0 + a0) - (b0 + a0)) ((d1 + a1) - (b1 + a1)) ((d2 + a2) - (b2 + a2)))), none]) s = some (.nx ([some (.py (W4 a0 a1 a2 b0 b1 b2 c0 c1 c2 d0 d1 d2)), some (.py (.tuple [.int 0, .int 1, .int 1, .int 1])), some (.py (.list [.int 1, .int 2, .int 3])), none, some (.py (.list [.int 0])), some (.py (.list [.tuple [.int 3, .int 0], .tuple [.int 2, .int 0], .tuple [.int 1, .int 0]])), some (.py (.int 3)), none, some (.py (.list [v3 (b0 + a0) (b1 + a1) (b2 + a2), v3 (c0 + a0) (c1 + a1) (c2 + a2), v3 (d0 + a0) (d1 + a1) (d2 + a2)])), none, some (.py (v3 ((c0 + a0) - (b0 + a0)) ((c1 + a1) - (b1 + a1)) ((c2 + a2) - (b2 + a2)))), some (.py (v3 ((d0 + a0) - (b0 + a0)) ((d1 + a1) - (b1 + a1)) ((d2 + a2) - (b2 + a2)))), none]) s) := by kernel_rfl
theorem post_7 (a0 a1 a2 b0 b1 b2 c0 c1 c2 d0 d1 d2 : Int) (s : S) : denCs G__law_cycle rC ([some (.py (W4 a0 a1 a2 b0 b1 b2 c0 c1 c2 d0 d1 d2)), some (.py (.tuple [.int 0, .int 1, .int 1, .int 1])), some (.py (.list [.int 1, .int 2, .int 3])), none, some (.py (.list [.int 0])), some (.py (.list [.tuple [.int 3, .int 0], .tuple [.int 2, .int 0], .tuple [.int 1, .int 0]])), some (.py (.int 3)), none, some (.py (.list [v3 (b0 + a0) (b1 + a1) (b2 + a2), v3 (c0 + a0) (c1 + a1) (c2 + a2), v3 (d0 + a0) (d1 + a1) (d2 + a2)])), none, some (.py (v3 ((c0 + a0) - (b0 + a0)) ((c1 + a1) - (b1 + a1)) ((c2 + a2) - (b2 + a2)))), some (.py (v3 ((d0 + a0) - (b0 + a0)) ((d1 + a1) - (b1 + a1)) ((d2 + a2) - (b2 + a2)))), none]) s = some (.rt (.py (.tuple [.tuple [.int 1, .int 0], .tuple [.int 3, .int 0], .tuple [.int 2, .int 0]])) s) := by kernel_rfl
theorem cyc_7 {a0 a1 a2 b0 b1 b2 c0 c1 c2 d0 d1 d2 : Int} (ha0 : Pt a0) (ha1 : Pt a1) (ha2 : Pt a2) (hb0 : Pt b0) (hb1 : Pt b1) (hb2 : Pt b2) (hc0 : Pt c0) (hc1 : Pt c1) (hc2 : Pt c2) (hd0 : Pt d0) (hd1 : Pt d1) (hd2 : Pt d2) (six : 0 < detI (b0 - a0) (b1 - a1) (b2 - a2) (c0 - a0) (c1 - a1) (c2 - a2) (d0 - a0) (d1 - a1) (d2 - a2)) (s : S) : d__law_cycle [.py (W4 a0 a1 a2 b0 b1 b2 c0 c1 c2 d0 d1 d2), .py (.tuple [.int 0, .int 1, .int 1, .int 1])] s = some (.py (.tuple [.tuple [.int 1, .int 0], .tuple [.int 3, .int 0], .tuple [.int 2, .int 0]]), s) := by
  have hd := det_eq (a := ((c0 + a0) - (b0 + a0))) (b := ((c1 + a1) - (b1 + a1))) (c := ((c2 + a2) - (b2 + a2))) (d := ((d0 + a0) - (b0 + a0))) (e := ((d1 + a1) - (b1 + a1))) (f := ((d2 + a2) - (b2 + a2))) (g := (a0 - b0)) (h := (a1 - b1)) (i := (a2 - b2)) ⟨by have := hc0.1; have := hc0.2; have := ha0.1; have := ha0.2; have := hb0.1; have := hb0.2; have := ha0.1; have := ha0.2; omega, by have := hc0.1; have := hc0.2; have := ha0.1; have := ha0.2; have := hb0.1; have := hb0.2; have := ha0.1; have := ha0.2; omega⟩ ⟨by have := hc1.1; have := hc1.2; have := ha1.1; have := ha1.2; have := hb1.1; have := hb1.2; have := ha1.1; have := ha1.2; omega, by have := hc1.1; have := hc1.2; have := ha1.1; have := ha1.2; have := hb1.1; have := hb1.2; have := ha1.1; have := ha1.2; omega⟩ ⟨by have := hc2.1; have := hc2.2; have := ha2.1; have := ha2.2; have := hb2.1; have := hb2.2; have := ha2.1; have := ha2.2; omega, by have := hc2.1; have := hc2.2; have := ha2.1; have := ha2.2; have := hb2.1; have := hb2.2; have := ha2.1; have := ha2.2; omega⟩ ⟨by have := hd0.1; have := hd0.2; have := ha0.1; have := ha0.2; have := hb0.1; have := hb0.2; have := ha0.1; have := ha0.2; omega, by have := hd0.1; have := hd0.2; have := ha0.1; have := ha0.2; have := hb0.1; have := hb0.2; have := ha0.1; have := ha0.2; omega⟩ ⟨by have := hd1.1; have := hd1.2; have := ha1.1; have := ha1.2; have := hb1.1; have := hb1.2; have := ha1.1; have := ha1.2; omega, by have := hd1.1; have := hd1.2; have := ha1.1; have := ha1.2; have := hb1.1; have := hb1.2; have := ha1.1; have := ha1.2; omega⟩ ⟨by have := hd2.1; have := hd2.2; have := ha2.1; have := ha2.2; have := hb2.1; have := hb2.2; have := ha2.1; have := ha2.2; omega, by have := hd2.1; have := hd2.2; have := ha2.1; have := ha2.2; have := hb2.1; have := hb2.2; have := ha2.1; have := ha2.2; omega⟩ s
  have hT : denT G__law_cycle (.cmpT (.cm .lt) (.fn 1 esC) (.litI 0)) ([some (.py (W4 a0 a1 a2 b0 b1 b2 c0 c1 c2 d0 d1 d2)), some (.py (.tuple [.int 0, .int 1, .int 1, .int 1])), some (.py (.list [.int 1, .int 2, .int 3])), none, some (.py (.list [.int 0])), some (.py (.list [.tuple [.int 1, .int 0], .tuple [.int 2, .int 0], .tuple [.int 3, .int 0]])), some (.py (.int 3)), none, some (.py (.list [v3 (b0 + a0) (b1 + a1) (b2 + a2), v3 (c0 + a0) (c1 + a1) (c2 + a2), v3 (d0 + a0) (d1 + a1) (d2 + a2)])), none, some (.py (v3 ((c0 + a0) - (b0 + a0)) ((c1 + a1) - (b1 + a1)) ((c2 + a2) - (b2 + a2)))), some (.py (v3 ((d0 + a0) - (b0 + a0)) ((d1 + a1) - (b1 + a1)) ((d2 + a2) - (b2 + a2)))), none]) s = some (true, s) := by
    rw [cmp_ints (fn_val rfl (arg_7 a0 a1 a2 b0 b1 b2 c0 c1 c2 d0 d1 d2 s) rfl hd)]
    rw [sgn_7]
    generalize detI (b0 - a0) (b1 - a1) (b2 - a2) (c0 - a0) (c1 - a1) (c2 - a2) (d0 - a0) (d1 - a1) (d2 - a2) = x at six
    rw [show Cm.ints .lt (-1 * x) 0 = true from decide_eq_true (by omega)]
  refine fn_of_rt ?_
  rw [steps_ok 9 (pre_7 a0 a1 a2 b0 b1 b2 c0 c1 c2 d0 d1 d2 s), restC]
  rw [cons_nx ((ifc_true hT).trans (mid_7 a0 a1 a2 b0 b1 b2 c0 c1 c2 d0 d1 d2 s))]
  exact post_7 a0 a1 a2 b0 b1 b2 c0 c1 c2 d0 d1 d2 s
theorem sgn_8 (a0 a1 a2 b0 b1 b2 c0 c1 c2 d0 d1 d2 : Int) : detI ((a0 + c0) - (a0 + b0)) ((a1 + c1) - (a1 + b1)) ((a2 + c2) - (a2 + b2)) ((a0 + d0) - (a0 + b0)) ((a1 + d1) - (a1 + b1)) ((a2 + d2) - (a2 + b2)) (b0 - a0) (b1 - a1) (b2 - a2) = 1 * detI (b0 - a0) (b1 - a1) (b2 - a2) (c0 - a0) (c1 - a1) (c2 - a2) (d0 - a0) (d1 - a1) (d2 - a2) := by
  unfold detI
  grind
theorem pre_8 (a0 a1 a2 b0 b1 b2 c0 c1 c2 d0 d1 d2 : Int) (s : S) : steps G__law_cycle 9 c__law_cycle (Rf.envOf 13 [.py (W4 a0 a1 a2 b0 b1 b2 c0 c1 c2 d0 d1 d2), .py (.tuple [.int 1, .int 0, .int 0, .int 0])]) s = some ([some (.py (W4 a0 a1 a2 b0 b1 b2 c0 c1 c2 d0 d1 d2)), some (.py (.tuple [.int 1, .int 0, .int 0, .int 0])), some (.py (.list [.int 0])), none, some (.py (.list [.int 1, .int 2, .int 3])), some (.py (.list [.tuple [.int 0, .int 1], .tuple [.int 0, .int 2], .tuple [.int 0, .int 3]])), some (.py (.int 0)), none, some (.py (.list [v3 (a0 + b0) (a1 + b1) (a2 + b2), v3 (a0 + c0) (a1 + c1) (a2 + c2), v3 (a0 + d0) (a1 + d1) (a2 + d2)])), none, some (.py (v3 ((a0 + c0) - (a0 + b0)) ((a1 + c1) - (a1 + b1)) ((a2 + c2) - (a2 + b2)))), some (.py (v3 ((a0 + d0) - (a0 + b0)) ((a1 + d1) - (a1 + b1)) ((a2 + d2) - (a2 + b2)))), none], s) := by kernel_rfl
theorem arg_8 (a0 a1 a2 b0 b1 b2 c0 c1 c2 d0 d1 d2 : Int) (s : S) : denEs G__law_cycle esC ([some (.py (W4 a0 a1 a2 b0 b1 b2 c0 c1 c2 d0 d1 d2)), some (.py (.tuple [.int 1, .int 0, .int 0, .int 0])), some (.py (.list [.int 0])), none, some (.py (.list [.int 1, .int 2, .int 3])), some (.py (.list [.tuple [.int 0, .int 1], .tuple [.int 0, .int 2], .tuple [.int 0, .int 3]])), some (.py (.int 0)), none, some (.py (.list [v3 (a0 + b0) (a1 + b1) (a2 + b2), v3 (a0 + c0) (a1 + c1) (a2 + c2), v3 (a0 + d0) (a1 + d1) (a2 + d2)])), none, some (.py (v3 ((a0 + c0) - (a0 + b0)) ((a1 + c1) - (a1 + b1)) ((a2 + c2) - (a2 + b2)))), some (.py (v3 ((a0 + d0) - (a0 + b0)) ((a1 + d1) - (a1 + b1)) ((a2 + d2) - (a2 + b2)))), none]) s = some ([.py (v3 ((a0 + c0) - (a0 + b0)) ((a1 + c1) - (a1 + b1)) ((a2 + c2) - (a2 + b2))), .py (v3 ((a0 + d0) - (a0 + b0)) ((a1 + d1) - (a1 + b1)) ((a2 + d2) - (a2 + b2))), .py (v3 (b0 - a0) (b1 - a1) (b2 - a2))], s) := by kernel_rfl
theorem post_8 (a0 a1 a2 b0 b1 b2 c0 c1 c2 d0 d1 d2 : Int) (s : S) : denCs G__law_cycle rC ([some (.py (W4 a0 a1 a2 b0 b1 b2 c0 c1 c2 d0 d1 d2)), some (.py (.tuple [.int 1, .int 0, .int 0, .int 0])), some (.py (.list [.int 0])), none, some (.py (.list [.int 1, .int 2, .int 3])), some (.py (.list [.tuple [.int 0, .int 1], .tuple [.int 0, .int 2], .tuple [.int 0, .int 3]])), some (.py (.int 0)), none, some (.py (.list [v3 (a0 + b0) (a1 + b1) (a2 + b2), v3 (a0 + c0) (a1 + c1) (a2 + c2), v3 (a0 + d0) (a1 + d1) (a2 + d2)])), none, some (.py (v3 ((a0 + c0) - (a0 + b0)) ((a1 + c1) - (a1 + b1)) ((a2 + c2) - (a2 + b2)))), some (.py (v3 ((a0 + d0) - (a0 + b0)) ((a1 + d1) - (a1 + b1)) ((a2 + d2) - (a2 + b2)))), none]) s = some (.rt (.py (.tuple [.tuple [.int 0, .int 1], .tuple [.int 0, .int 2], .tuple [.int 0, .int 3]])) s) := by kernel_rfl
theorem cyc_8 {a0 a1 a2 b0 b1 b2 c0 c1 c2 d0 d1 d2 : Int} (ha0 : Pt a0) (ha1 : Pt a1) (ha2 : Pt a2) (hb0 : Pt b0) (hb1 : Pt b1) (hb2 : Pt b2) (hc0 : Pt c0) (hc1 : Pt c1) (hc2 : Pt c2) (hd0 : Pt d0) (hd1 : Pt d1) (hd2 : Pt d2) (six : 0 < detI (b0 - a0) (b1 - a1) (b2 - a2) (c0 - a0) (c1 - a1) (c2 - a2) (d0 - a0) (d1 - a1) (d2 - a2)) (s : S) : d__law_cycle [.py (W4 a0 a1 a2 b0 b1 b2 c0 c1 c2 d0 d1 d2), .py (.tuple [.int 1, .int 0, .int 0, .int 0])] s = some (.py (.tuple [.tuple [.int 0, .int 1], .tuple [.int 0, .int 2], .tuple [.int 0, .int 3]]), s) := by
  have hd := det_eq (a := ((a0 + c0) - (a0 + b0))) (b := ((a1 + c1) - (a1 + b1))) (c := ((a2 + c2) - (a2 + b2))) (d := ((a0 + d0) - (a0 + b0))) (e := ((a1 + d1) - (a1 + b1))) (f := ((a2 + d2) - (a2 + b2))) (g := (b0 - a0)) (h := (b1 - a1)) (i := (b2 - a2)) ⟨by have := ha0.1; have := ha0.2; have := hc0.1; have := hc0.2; have := ha0.1; have := ha0.2; have := hb0.1; have := hb0.2; omega, by have := ha0.1; have := ha0.2; have := hc0.1; have := hc0.2; have := ha0.1; have := ha0.2; have := hb0.1; have := hb0.2; omega⟩ ⟨by have := ha1.1; have := ha1.2; have := hc1.1; have := hc1.2; have := ha1.1; have := ha1.2; have := hb1.1; have := hb1.2; omega, by have := ha1.1; have := ha1.2; have := hc1.1; have := hc1.2; have := ha1.1; have := ha1.2; have := hb1.1; have := hb1.2; omega⟩ ⟨by have := ha2.1; have := ha2.2; have := hc2.1; have := hc2.2; have := ha2.1; have := ha2.2; have := hb2.1; have := hb2.2; omega, by have := ha2.1; have := ha2.2; have := hc2.1; have := hc2.2; have := ha2.1; have := ha2.2; have := hb2.1; have := hb2.2; omega⟩ ⟨by have := ha0.1; have := ha0.2; have := hd0.1; have := hd0.2; have := ha0.1; have := ha0.2; have := hb0.1; have := hb0.2; omega, by have := ha0.1; have := ha0.2; have := hd0.1; have := hd0.2; have := ha0.1; have := ha0.2; have := hb0.1; have := hb0.2; omega⟩ ⟨by have := ha1.1; have := ha1.2; have := hd1.1; have := hd1.2; have := ha1.1; have := ha1.2; have := hb1.1; have := hb1.2; omega, by have := ha1.1; have := ha1.2; have := hd1.1; have := hd1.2; have := ha1.1; have := ha1.2; have := hb1.1; have := hb1.2; omega⟩ ⟨by have := ha2.1; have := ha2.2; have := hd2.1; have := hd2.2; have := ha2.1; have := ha2.2; have := hb2.1; have := hb2.2; omega, by have := ha2.1; have := ha2.2; have := hd2.1; have := hd2.2; have := ha2.1; have := ha2.2; have := hb2.1; have := hb2.2; omega⟩ s
  have hT : denT G__law_cycle (.cmpT (.cm .lt) (.fn 1 esC) (.litI 0)) ([some (.py (W4 a0 a1 a2 b0 b1 b2 c0 c1 c2 d0 d1 d2)), some (.py (.tuple [.int 1, .int 0, .int 0, .int 0])), some (.py (.list [.int 0])), none, some (.py (.list [.int 1, .int 2, .int 3])), some (.py (.list [.tuple [.int 0, .int 1], .tuple [.int 0, .int 2], .tuple [.int 0, .int 3]])), some (.py (.int 0)), none, some (.py (.list [v3 (a0 + b0) (a1 + b1) (a2 + b2), v3 (a0 + c0) (a1 + c1) (a2 + c2), v3 (a0 + d0) (a1 + d1) (a2 + d2)])), none, some (.py (v3 ((a0 + c0) - (a0 + b0)) ((a1 + c1) - (a1 + b1)) ((a2 + c2) - (a2 + b2)))), some (.py (v3 ((a0 + d0) - (a0 + b0)) ((a1 + d1) - (a1 + b1)) ((a2 + d2) - (a2 + b2)))), none]) s = some (false, s) := by
    rw [cmp_ints (fn_val rfl (arg_8 a0 a1 a2 b0 b1 b2 c0 c1 c2 d0 d1 d2 s) rfl hd)]
    rw [sgn_8]
    generalize detI (b0 - a0) (b1 - a1) (b2 - a2) (c0 - a0) (c1 - a1) (c2 - a2) (d0 - a0) (d1 - a1) (d2 - a2) = x at six
    rw [show Cm.ints .lt (1 * x) 0 = false from decide_eq_false (by omega)]
  refine fn_of_rt ?_
  rw [steps_ok 9 (pre_8 a0 a1 a2 b0 b1 b2 c0 c1 c2 d0 d1 d2 s), restC]
  rw [cons_nx ((ifc_false hT).trans (show denCs G__law_cycle .nil _ s = some (Out.nx _ s) from rfl))]
  exact post_8 a0 a1 a2 b0 b1 b2 c0 c1 c2 d0 d1 d2 s
theorem sgn_9 (a0 a1 a2 b0 b1 b2 c0 c1 c2 d0 d1 d2 : Int) : detI ((a0 + c0) - (a0 + b0)) ((a1 + c1) - (a1 + b1)) ((a2 + c2) - (a2 + b2)) ((d0 + c0) - (a0 + b0)) ((d1 + c1) - (a1 + b1)) ((d2 + c2) - (a2 + b2)) (b0 - a0) (b1 - a1) (b2 - a2) = 1 * detI (b0 - a0) (b1 - a1) (b2 - a2) (c0 - a0) (c1 - a1) (c2 - a2) (d0 - a0) (d1 - a1) (d2 - a2) := by
  unfold detI
  grind
theorem pre_9 (a0 a1 a2 b0 b1 b2 c0 c1 c2 d0 d1 d2 : Int) (s : S) : steps G__law_cycle 9 c__law_cycle (Rf.envOf 13 [.py (W4 a0 a1 a2 b0 b1 b2 c0 c1 c2 d0 d1 d2), .py (.tuple [.int 1, .int 0, .int 0, .int 1])]) s = some ([some (.py (W4 a0 a1 a2 b0 b1 b2 c0 c1 c2 d0 d1 d2)), some (.py (.tuple [.int 1, .int 0, .int 0, .int 1])), some (.py (.list [.int 0, .int 3])), none, some (.py (.list [.int 1, .int 2])), some (.py (.list [.tuple [.int 0, .int 1], .tuple [.int 0, .int 2], .tuple [.int 3, .int 2], .tuple [.int 3, .int 1]])), some (.py (.int 3)), none, some (.py (.list [v3 (a0 + b0) (a1 + b1) (a2 + b2), v3 (a0 + c0) (a1 + c1) (a2 + c2), v3 (d0 + c0) (d1 + c1) (d2 + c2), v3 (d0 + b0) (d1 + b1) (d2 + b2)])), none, some (.py (v3 ((a0 + c0) - (a0 + b0)) ((a1 + c1) - (a1 + b1)) ((a2 + c2) - (a2 + b2)))), some (.py (v3 ((d0 + c0) - (a0 + b0)) ((d1 + c1) - (a1 + b1)) ((d2 + c2) - (a2 + b2)))), none], s) := by kernel_rfl
theorem arg_9 (a0 a1 a2 b0 b1 b2 c0 c1 c2 d0 d1 d2 : Int) (s : S) : denEs G__law_cycle esC ([some (.py (W4 a0 a1 a2 b0 b1 b2 c0 c1 c2 d0 d1 d2)), some (.py (.tuple [.int 1, .int 0, .int 0, .int 1])), some (.py (.list [.int 0, .int 3])), none, some (.py (.list [.int 1, .int 2])), some (.py (.list [.tuple [.int 0, .int 1], .tuple [.int 0, .int 2], .tuple [.int 3, .int 2], .tuple [.int 3, .int 1]])), some (.py (.int 3)), none, some (.py (.list [v3 (a0 + b0) (a1 + b1) (a2 + b2), v3 (a0 + c0) (a1 + c1) (a2 + c2), v3 (d0 + c0) (d1 + c1) (d2 + c2), v3 (d0 + b0) (d1 + b1) (d2 + b2)])), none, some (.py (v3 ((a0 + c0) - (a0 + b0)) ((a1 + c1) - (a1 + b1)) ((a2 + c2) - (a2 + b2)))), some (.py (v3 ((d0 + c0) - (a0 + b0)) ((d1 + c1) - (a1 + b1)) ((d2 + c2) - (a2 + b2)))), none]) s = some ([.py (v3 ((a0 + c0) - (a0 + b0)) ((a1 + c1) - (a1 + b1)) ((a2 + c2) - (a2 + b2))), .py (v3 ((d0 + c0) - (a0 + b0)) ((d1 + c1) - (a1 + b1)) ((d2 + c2) - (a2 + b2))), .py (v3 (b0 - a0) (b1 - a1) (b2 - a2))], s) := by kernel_rfl
theorem post_9 (a0 a1 a2 b0 b1 b2 c0 c1 c2 d0 d1 d2 : Int) (s : S) : denCs G__law_cycle rC ([some (.py (W4 a0 a1 a2 b0 b1 b2 c0 c1 c2 d0 d1 d2)), some (.py (.tuple [.int 1, .int 0, .int 0, .int 1])), some (.py (.list [.int 0, .int 3])), none, some (.py (.list [.int 1, .int 2])), some (.py (.list [.tuple [.int 0, .int 1], .tuple [.int 0, .int 2], .tuple [.int 3, .int 2], .tuple [.int 3, .int 1]])), some (.py (.int 3)), none, some (.py (.list [v3 (a0 + b0) (a1 + b1) (a2 + b2), v3 (a0 + c0) (a1 + c1) (a2 + c2), v3 (d0 + c0) (d1 + c1) (d2 + c2), v3 (d0 + b0) (d1 + b1) (d2 + b2)])), none, some (.py (v3 ((a0 + c0) - (a0 + b0)) ((a1 + c1) - (a1 + b1)) ((a2 + c2) - (a2 + b2)))), some (.py (v3 ((d0 + c0) - (a0 + b0)) ((d1 + c1) - (a1 + b1)) ((d2 + c2) - (a2 + b2)))), none]) s = some (.rt (.py (.tuple [.tuple [.int 0, .int 1], .tuple [.int 0, .int 2], .tuple [.int 3, .int 2], .tuple [.int 3, .int 1]])) s) := by kernel_rfl
theorem cyc_9 {a0 a1 a2 b0 b1 b2 c0 c1 c2 d0 d1 d2 : Int} (ha0 : Pt a0) (ha1 : Pt a1) (ha2 : Pt a2) (hb0 : Pt b0) (hb1 : Pt b1) (hb2 : Pt b2) (hc0 : Pt c0) (hc1 : Pt c1) (hc2 : Pt c2) (hd0 : Pt d0) (hd1 : Pt d1) (hd2 : Pt d2) (six : 0 < detI (b0 - a0) (b1 - a1) (b2 - a2) (c0 - a0) (c1 - a1) (c2 - a2) (d0 - a0) (d1 - a1) (d2 - a2)) (s : S) : d__law_cycle [.py (W4 a0 a1 a2 b0 b1 b2 c0 c1 c2 d0 d1 d2), .py (.tuple [.int 1, .int 0, .int 0, .int 1])] s = some (.py (.tuple [.tuple [.int 0, .int 1], .tuple [.int 0, .int 2], .tuple [.int 3, .int 2], .tuple [.int 3, .int 1]]), s) := by
  have hd := det_eq (a := ((a0 + c0) - (a0 + b0))) (b := ((a1 + c1) - (a1 + b1))) (c := ((a2 + c2) - (a2 + b2))) (d := ((d0 + c0) - (a0 + b0))) (e := ((d1 + c1) - (a1 + b1))) (f := ((d2 + c2) - (a2 + b2))) (g := (b0 - a0)) (h := (b1 - a1)) (i := (b2 - a2)) ⟨by have := ha0.1; have := ha0.2; have := hc0.1; have := hc0.2; have := ha0.1; have := ha0.2; have := hb0.1; have := hb0.2; omega, by have := ha0.1; have := ha0.2; have := hc0.1; have := hc0.2; have := ha0.1; have := ha0.2; have := hb0.1; have := hb0.2; omega⟩ ⟨by have := ha1.1; have := ha1.2; have := hc1.1; have := hc1.2; have := ha1.1; have := ha1.2; have := hb1.1; have := hb1.2; omega, by have := ha1.1; have := ha1.2; have := hc1.1; have := hc1.2; have := ha1.1; have := ha1.2; have := hb1.1; have := hb1.2; omega⟩ ⟨by have := ha2.1; have := ha2.2; have := hc2.1; have := hc2.2; have := ha2.1; have := ha2.2; have := hb2.1; have := hb2.2; omega, by have := ha2.1; have := ha2.2; have := hc2.1; have := hc2.2; have := ha2.1; have := ha2.2; have := hb2.1; have := hb2.2; omega⟩ ⟨by have := hd0.1; have := hd0.2; have := hc0.1; have := hc0.2; have := ha0.1; have := ha0.2; have := hb0.1; have := hb0.2; omega, by have := hd0.1; have := hd0.2; have := hc0.1; have := hc0.2; have := ha0.1; have := ha0.2; have := hb0.1; have := hb0.2; omega⟩ ⟨by have := hd1.1; have := hd1.2; have := hc1.1; have := hc1.2; have := ha1.1; have := ha1.2; have := hb1.1; have := hb1.2; omega, by have := hd1.1; have := hd1.2; have := hc1.1; have := hc1.2; have := ha1.1; have := ha1.2; have := hb1.1; have := hb1.2; omega⟩ ⟨by have := hd2.1; have := hd2.2; have := hc2.1; have := hc2.2; have := ha2.1; have := ha2.2; have := hb2.1; have := hb2.2; omega, by have := hd2.1; have := hd2.2; have := hc2.1; have := hc2.2; have := ha2.1; have := ha2.2; have := hb2.1; have := hb2.2; omega⟩ s
  have hT : denT G__law_cycle (.cmpT (.cm .lt) (.fn 1 esC) (.litI 0)) ([some (.py (W4 a0 a1 a2 b0 b1 b2 c0 c1 c2 d0 d1 d2)), some (.py (.tuple [.int 1, .int 0, .int 0, .int 1])), some (.py (.list [.int 0, .int 3])), none, some (.py (.list [.int 1, .int 2])), some (.py (.list [.tuple [.int 0, .int 1], .tuple [.int 0, .int 2], .tuple [.int 3, .int 2], .tuple [.int 3, .int 1]])), some (.py (.int 3)), none, some (.py (.list [v3 (a0 + b0) (a1 + b1) (a2 + b2), v3 (a0 + c0) (a1 + c1) (a2 + c2), v3 (d0 + c0) (d1 + c1) (d2 + c2), v3 (d0 + b0) (d1 + b1) (d2 + b2)])), none, some (.py (v3 ((a0 + c0) - (a0 + b0)) ((a1 + c1) - (a1 + b1)) ((a2 + c2) - (a2 + b2)))), some (.py (v3 ((d0 + c0) - (a0 + b0)) ((d1 + c1) - (a1 + b1)) ((d2 + c2) - (a2 + b2)))), none]) s = some (false, s) := by
    rw [cmp_ints (fn_val rfl (arg_9 a0 a1 a2 b0 b1 b2 c0 c1 c2 d0 d1 d2 s) rfl hd)]
    rw [sgn_9]
    generalize detI (b0 - a0) (b1 - a1) (b2 - a2) (c0 - a0) (c1 - a1) (c2 - a2) (d0 - a0) (d1 - a1) (d2 - a2) = x at six
    rw [show Cm.ints .lt (1 * x) 0 = false from decide_eq_false (by omega)]
  refine fn_of_rt ?_
  rw [steps_ok 9 (pre_9 a0 a1 a2 b0 b1 b2 c0 c1 c2 d0 d1 d2 s), restC]
  rw [cons_nx ((ifc_false hT).trans (show denCs G__law_cycle .nil _ s = some (Out.nx _ s) from rfl))]
  exact post_9 a0 a1 a2 b0 b1 b2 c0 c1 c2 d0 d1 d2 s
theorem sgn_10 (a0 a1 a2 b0 b1 b2 c0 c1 c2 d0 d1 d2 : Int) : detI ((a0 + d0) - (a0 + b0)) ((a1 + d1) - (a1 + b1)) ((a2 + d2) - (a2 + b2)) ((c0 + d0) - (a0 + b0)) ((c1 + d1) - (a1 + b1)) ((c2 + d2) - (a2 + b2)) (b0 - a0) (b1 - a1) (b2 - a2) = -1 * detI (b0 - a0) (b1 - a1) (b2 - a2) (c0 - a0) (c1 - a1) (c2 - a2) (d0 - a0) (d1 - a1) (d2 - a2) := by
  unfold detI
  grind
theorem pre_10 (a0 a1 a2 b0 b1 b2 c0 c1 c2 d0 d1 d2 : Int) (s : S) : steps G__law_cycle 9 c__law_cycle (Rf.envOf 13 [.py (W4 a0 a1 a2 b0 b1 b2 c0 c1 c2 d0 d1 d2), .py (.tuple [.int 1, .int 0, .int 1, .int 0])]) s = some ([some (.py (W4 a0 a1 a2 b0 b1 b2 c0 c1 c2 d0 d1 d2)), some (.py (.tuple [.int 1, .int 0, .int 1, .int 0])), some (.py (.list [.int 0, .int 2])), none, some (.py (.list [.int 1, .int 3])), some (.py (.list [.tuple [.int 0, .int 1], .tuple [.int 0, .int 3], .tuple [.int 2, .int 3], .tuple [.int 2, .int 1]])), some (.py (.int 2)), none, some (.py (.list [v3 (a0 + b0) (a1 + b1) (a2 + b2), v3 (a0 + d0) (a1 + d1) (a2 + d2), v3 (c0 + d0) (c1 + d1) (c2 + d2), v3 (c0 + b0) (c1 + b1) (c2 + b2)])), none, some (.py (v3 ((a0 + d0) - (a0 + b0)) ((a1 + d1) - (a1 + b1)) ((a2 + d2) - (a2 + b2)))), some (.py (v3 ((c0 + d0) - (a0 + b0)) ((c1 + d1) - (a1 + b1)) ((c2 + d2) - (a2 + b2)))), none], s) := by kernel_rfl
theorem arg_10 (a0 a1 a2 b0 b1 b2 c0 c1 c2 d0 d1 d2 : Int) (s : S) : denEs G__law_cycle esC ([some (.py (W4 a0 a1 a2 b0 b1 b2 c0 c1 c2 d0 d1 d2)), some (.py (.tuple [.int 1, .int 0, .int 1, .int 0])), some (.py (.list [.int 0, .int 2])), none, some (.py (.list [.int 1, .int 3])), some (.py (.list [.tuple [.int 0, .int 1], .tuple [.int 0, .int 3], .tuple [.int 2, .int 3], .tuple [.int 2, .int 1]])), some (.py (.int 2)), none, some (.py (.list [v3 (a0 + b0) (a1 + b1) (a2 + b2), v3 (a0 + d0) (a1 + d1) (a2 + d2), v3 (c0 + d0) (c1 + d1) (c2 + d2), v3 (c0 + b0) (c1 + b1) (c2 + b2)])), none, some (.py (v3 ((a0 + d0) - (a0 + b0)) ((a1 + d1) - (a1 + b1)) ((a2 + d2) - (a2 + b2)))), some (.py (v3 ((c0 + d0) - (a0 + b0)) ((c1 + d1) - (a1 + b1)) ((c2 + d2) - (a2 + b2)))), none]) s = some ([.py (v3 ((a0 + d0) - (a0 + b0)) ((a1 + d1) - (a1 + b1)) ((a2 + d2) - (a2 + b2))), .py (v3 ((c0 + d0) - (a0 + b0)) ((c1 + d1) - (a1 + b1)) ((c2 + d2) - (a2 + b2))), .py (v3 (b0 - a0) (b1 - a1) (b2 - a2))], s) := by kernel_rfl
theorem mid_10 (a0 a1 a2 b0 b1 b2 c0 c1 c2 d0 d1 d2 : Int) (s : S) : denCs G__law_cycle aC ([some (.py (W4 a0 a1 a2 b0 b1 b2 c0 c1 c2 d0 d1 d2)), some (.py (.tuple [.int 1, .int 0, .int 1, .int 0])), some (.py (.list [.int 0, .int 2])), none, some (.py (.list [.int 1, .int 3])), some (.py (.list [.tuple [.int 0, .int 1], .tuple [.int 0, .int 3], .tuple [.int 2, .int 3], .tuple [.int 2, .int 1]])), some (.py (.int 2)), none, some (.py (.list [v3 (a0 + b0) (a1 + b1) (a2 + b2), v3 (a0 + d0) (a1 + d1) (a2 + d2), v3 (c0 + d0) (c1 + d1) (c2 + d2), v3 (c0 + b0) (c1 + b1) (c2 + b2)])), none, some (.py (v3 ((a0 + d0) - (a0 + b0)) ((a1 + d1) - (a1 + b1)) ((a2 + d2) - (a2 + b2)))), some (.py (v3 ((c0 + d0) - (a0 + b0)) ((c1 + d1) - (a1 + b1)) ((c2 + d2) - (a2 + b2)))), none]) s = some (.nx ([some (.py (W4 a0 a1 a2 b0 b1 b2 c0 c1 c2 d0 d1 d2)), some (.py (.tuple [.int 1, .int 0, .int 1, .int 0])), some (.py (.list [.int 0, .int 2])), none, some (.py (.list [.int 1, .int 3])), some (.py (.list [.tuple [.int 2, .int 1], .tuple [.int 2, .int 3], .tuple [.int 0, .int 3], .tuple [.int 0, .int 1]])), some (.py (.int 2)), none, some (.py (.list [v3 (a0 + b0) (a1 + b1) (a2 + b2), v3 (a0 + d0) (a1 + d1) (a2 + d2), v3 (c0 + d0) (c1 + d1) (c2 + d2), v3 (c0 + b0) (c1 + b1) (c2 + b2)])), none, some (.py (v3 ((a0 + d0) - (a0 + b0)) ((a1 + d1) - (a1 + b1)) ((a2 + d2) - (a2 + b2)))), some (.py (v3 ((c0 + d0) - (a0 + b0)) ((c1 + d1) - (a1 + b1)) ((c2 + d2) - (a2 + b2)))), none]) s) := by kernel_rfl
theorem post_10 (a0 a1 a2 b0 b1 b2 c0 c1 c2 d0 d1 d2 : Int) (s : S) : denCs G__law_cycle rC ([some (.py (W4 a0 a1 a2 b0 b1 b2 c0 c1 c2 d0 d1 d2)), some (.py (.tuple [.int 1, .int 0, .int 1, .int 0])), some (.py (.list [.int 0, .int 2])), none, some (.py (.list [.int 1, .int 3])), some (.py (.list [.tuple [.int 2, .int 1], .tuple [.int 2, .int 3], .tuple [.int 0, .int 3], .tuple [.int 0, .int 1]])), some (.py (.int 2)), none, some (.py (.list [v3 (a0 + b0) (a1 + b1) (a2 + b2), v3 (a0 + d0) (a1 + d1) (a2 + d2), v3 (c0 + d0) (c1 + d1) (c2 + d2), v3 (c0 + b0) (c1 + b1) (c2 + b2)])), none, some (.py (v3 ((a0 + d0) - (a0 + b0)) ((a1 + d1) - (a1 + b1)) ((a2 + d2) - (a2 + b2)))), some (.py (v3 ((c0 + d0) - (a0 + b0)) ((c1 + d1) - (a1 + b1)) ((c2 + d2) - (a2 + b2)))), none]) s = some (.rt (.py (.tuple [.tuple [.int 0, .int 1], .tuple [.int 2, .int 1], .tuple [.int 2, .int 3], .tuple [.int 0, .int 3]])) s) := by kernel_rfl
theorem cyc_10 {a0 a1 a2 b0 b1 b2 c0 c1 c2 d0 d1 d2 : Int} (ha0 : Pt a0) (ha1 : Pt a1) (ha2 : Pt a2) (hb0 : Pt b0) (hb1 : Pt b1) (hb2 : Pt b2) (hc0 : Pt c0) (hc1 : Pt c1) (hc2 : Pt c2) (hd0 : Pt d0) (hd1 : Pt d1) (hd2 : Pt d2) (six : 0 < detI (b0 - a0) (b1 - a1) (b2 - a2) (c0 - a0) (c1 - a1) (c2 - a2) (d0 - a0) (d1 - a1) (d2 - a2)) (s : S) : d__law_cycle [.py (W4 a0 a1 a2 b0 b1 b2 c0 c1 c2 d0 d1 d2), .py (.tuple [.int 1, .int 0, .int 1, .int 0])] s = some (.py (.tuple [.tuple [.int 0, .int 1], .tuple [.int 2, .int 1], .tuple [.int 2, .int 3], .tuple [.int 0, .int 3]]), s) := by
  have hd := det_eq (a := ((a0 + d0) - (a0 + b0))) (b := ((a1 + d1) - (a1 + b1))) (c := ((a2 + d2) - (a2 + b2))) (d := ((c0 + d0) - (a0 + b0))) (e := ((c1 + d1) - (a1 + b1))) (f := ((c2 + d2) - (a2 + b2))) (g := (b0 - a0)) (h := (b1 - a1)) (i := (b2 - a2)) ⟨by have := ha0.1; have := ha0.2; have := hd0.1; have := hd0.2; have := ha0.1; have := ha0.2; have := hb0.1; have := hb0.2; omega, by have := ha0.1; have := ha0.2; have := hd0.1; have := hd0.2; have := ha0.1; have := ha0.2; have := hb0.1; have := hb0.2; omega⟩ ⟨by have := ha1.1; have := ha1.2; have := hd1.1; have := hd1.2; have := ha1.1; have := ha1.2; have := hb1.1; have := hb1.2; omega, by have := ha1.1; have := ha1.2; have := hd1.1; have := hd1.2; have := ha1.1; have := ha1.2; have := hb1.1; have := hb1.2; omega⟩ ⟨by have := ha2.1; have := ha2.2; have := hd2.1; have := hd2.2; have := ha2.1; have := ha2.2; have := hb2.1; have := hb2.2; omega, by have := ha2.1; have := ha2.2; have := hd2.1; have := hd2.2; have := ha2.1; have := ha2.2; have := hb2.1; have := hb2.2; omega⟩ ⟨by have := hc0.1; have := hc0.2; have := hd0.1; have := hd0.2; have := ha0.1; have := ha0.2; have := hb0.1; have := hb0.2; omega, by have := hc0.1; have := hc0.2; have := hd0.1; have := hd0.2; have := ha0.1; have := ha0.2; have := hb0.1; have := hb0.2; omega⟩ ⟨by have := hc1.1; have := hc1.2; have := hd1.1; have := hd1.2; have := ha1.1; have := ha1.2; have := hb1.1; have := hb1.2; omega, by have := hc1.1; have := hc1.2; have := hd1.1; have := hd1.2; have := ha1.1; have := ha1.2; have := hb1.1; have := hb1.2; omega⟩ ⟨by have := hc2.1; have := hc2.2; have := hd2.1; have := hd2.2; have := ha2.1; have := ha2.2; have := hb2.1; have := hb2.2; omega, by have := hc2.1; have := hc2.2; have := hd2.1; have := hd2.2; have := ha2.1; have := ha2.2; have := hb2.1; have := hb2.2; omega⟩ s
  have hT : denT G__law_cycle (.cmpT (.cm .lt) (.fn 1 esC) (.litI 0)) ([some (.py (W4 a0 a1 a2 b0 b1 b2 c0 c1 c2 d0 d1 d2)), some (.py (.tuple [.int 1, .int 0, .int 1, .int 0])), some (.py (.list [.int 0, .int 2])), none, some (.py (.list [.int 1, .int 3])), some (.py (.list [.tuple [.int 0, .int 1], .tuple [.int 0, .int 3], .tuple [.int 2, .int 3], .tuple [.int 2, .int 1]])), some (.py (.int 2)), none, some (.py (.list [v3 (a0 + b0) (a1 + b1) (a2 + b2), v3 (a0 + d0) (a1 + d1) (a2 + d2), v3 (c0 + d0) (c1 + d1) (c2 + d2), v3 (c0 + b0) (c1 + b1) (c2 + b2)])), none, some (.py (v3 ((a0 + d0) - (a0 + b0)) ((a1 + d1) - (a1 + b1)) ((a2 + d2) - (a2 + b2)))), some (.py (v3 ((c0 + d0) - (a0 + b0)) ((c1 + d1) - (a1 + b1)) ((c2 + d2) - (a2 + b2)))), none]) s = some (true, s) := by
    rw [cmp_ints (fn_val rfl (arg_10 a0 a1 a2 b0 b1 b2 c0 c1 c2 d0 d1 d2 s) rfl hd)]
    rw [sgn_10]
    generalize detI (b0 - a0) (b1 - a1) (b2 - a2) (c0 - a0) (c1 - a1) (c2 - a2) (d0 - a0) (d1 - a1) (d2 - a2) = x at six
    rw [show Cm.ints .lt (-1 * x) 0 = true from decide_eq_true (by omega)]
  refine fn_of_rt ?_
  rw [steps_ok 9 (pre_10 a0 a1 a2 b0 b1 b2 c0 c1 c2 d0 d1 d2 s), restC]
  rw [cons_nx ((ifc_true hT).trans (mid_10 a0 a1 a2 b0 b1 b2 c0 c1 c2 d0 d1 d2 s))]
  exact post_10 a0 a1 a2 b0 b1 b2 c0 c1 c2 d0 d1 d2 s
theorem sgn_11 (a0 a1 a2 b0 b1 b2 c0 c1 c2 d0 d1 d2 : Int) : detI ((c0 + b0) - (a0 + b0)) ((c1 + b1) - (a1 + b1)) ((c2 + b2) - (a2 + b2)) ((d0 + b0) - (a0 + b0)) ((d1 + b1) - (a1 + b1)) ((d2 + b2) - (a2 + b2)) (b0 - a0) (b1 - a1) (b2 - a2) = 1 * detI (b0 - a0) (b1 - a1) (b2 - a2) (c0 - a0) (c1 - a1) (c2 - a2) (d0 - a0) (d1 - a1) (d2 - a2) := by
  unfold detI
  grind
theorem pre_11 (a0 a1 a2 b0 b1 b2 c0 c1 c2 d0 d1 d2 : Int) (s : S) : steps G__law_cycle 9 c__law_cycle (Rf.envOf 13 [.py (W4 a0 a1 a2 b0 b1 b2 c0 c1 c2 d0 d1 d2), .py (.tuple [.int 1, .int 0, .int 1, .int 1])]) s = some ([some (.py (W4 a0 a1 a2 b0 b1 b2 c0 c1 c2 d0 d1 d2)), some (.py (.tuple [.int 1, .int 0, .int 1, .int 1])), some (.py (.list [.int 0, .int 2, .int 3])), none, some (.py (.list [.int 1])), some (.py (.list [.tuple [.int 0, .int 1], .tuple [.int 2, .int 1], .tuple [.int 3, .int 1]])), some (.py (.int 3)), none, some (.py (.list [v3 (a0 + b0) (a1 + b1) (a2 + b2), v3 (c0 + b0) (c1 + b1) (c2 + b2), v3 (d0 + b0) (d1 + b1) (d2 + b2)])), none, some (.py (v3 ((c0 + b0) - (a0 + b0)) ((c1 + b1) - (a1 + b1)) ((c2 + b2) - (a2 + b2)))), some (.py (v3 ((d0 + b0) - (a0 + b0)) ((d1 + b1) - (a1 + b1)) ((d2 + b2) - (a2 + b2)))), none], s) := by kernel_rfl
theorem arg_11 (a0 a1 a2 b0 b1 b2 c0 c1 c2 d0 d1 d2 : Int) (s : S) : denEs G__law_cycle esC ([some (.py (W4 a0 a1 a2 b0 b1 b2 c0 c1 c2 d0 d1 d2)), some (.py (.tuple [.int 1, .int 0, .int 1, .int 1])), some (.py (.list [.int 0, .int 2, .int 3])), none, some (.py (.list [.int 1])), some (.py (.list [.tuple [.int 0, .int 1], .tuple [.int 2, .int 1], .tuple [.int 3, .int 1]])), some (.py (.int 3)), none, some (.py (.list [v3 (a0 + b0) (a1 + b1) (a2 + b2), v3 (c0 + b0) (c1 + b1) (c2 + b2), v3 (d0 + b0) (d1 + b1) (d2 + b2)])), none, some (.py (v3 ((c0 + b0) - (a0 + b0)) ((c1 + b1) - (a1 + b1)) ((c2 + b2) - (a2 + b2)))), some (.py (v3 ((d0 + b0) - (a0 + b0)) ((d1 + b1) - (a1 + b1)) ((d2 + b2) - (a2 + b2)))), none]) s = some ([.py (v3 ((c0 + b0) - (a0 + b0)) ((c1 + b1) - (a1 + b1)) ((c2 + b2) - (a2 + b2))), .py (v3 ((d0 + b0) - (a0 + b0)) ((d1 + b1) - (a1 + b1)) ((d2 + b2) - (a2 + b2))), .py (v3 (b0 - a0) (b1 - a1) (b2 - a2))], s) := by kernel_rfl
theorem post_11 (a0 a1 a2 b0 b1 b2 c0 c1 c2 d0 d1 d2 : Int) (s : S) : denCs G__law_cycle rC ([some (.py (W4 a0 a1 a2 b0 b1 b2 c0 c1 c2 d0 d1 d2)), some (.py (.tuple [.int 1, .int 0, .int 1, .int 1])), some (.py (.list [.int 0, .int 2, .int 3])), none, some (.py (.list [.int 1])), some (.py (.list [.tuple [.int 0, .int 1], .tuple [.int 2, .int 1], .tuple [.int 3, .int 1]])), some (.py (.int 3)), none, some (.py (.list [v3 (a0 + b0) (a1 + b1) (a2 + b2), v3 (c0 + b0) (c1 + b1) (c2 + b2), v3 (d0 + b0) (d1 + b1) (d2 + b2)])), none, some (.py (v3 ((c0 + b0) - (a0 + b0)) ((c1 + b1) - (a1 + b1)) ((c2 + b2) - (a2 + b2)))), some (.py (v3 ((d0 + b0) - (a0 + b0)) ((d1 + b1) - (a1 + b1)) ((d2 + b2) - (a2 + b2)))), none]) s = some (.rt (.py (.tuple [.tuple [.int 0, .int 1], .tuple [.int 2, .int 1], .tuple [.int 3, .int 1]])) s) := by kernel_rfl
theorem cyc_11 {a0 a1 a2 b0 b1 b2 c0 c1 c2 d0 d1 d2 : Int} (ha0 : Pt a0) (ha1 : Pt a1) (ha2 : Pt a2) (hb0 : Pt b0) (hb1 : Pt b1) (hb2 : Pt b2) (hc0 : Pt c0) (hc1 : Pt c1) (hc2 : Pt c2) (hd0 : Pt d0) (hd1 : Pt d1) (hd2 : Pt d2) (six : 0 < detI (b0 - a0) (b1 - a1) (b2 - a2) (c0 - a0) (c1 - a1) (c2 - a2) (d0 - a0) (d1 - a1) (d2 - a2)) (s : S) : d__law_cycle [.py (W4 a0 a1 a2 b0 b1 b2 c0 c1 c2 d0 d1 d2), .py (.tuple [.int 1, .int 0, .int 1, .int 1])] s = some (.py (.tuple [.tuple [.int 0, .int 1], .tuple [.int 2, .int 1], .tuple [.int 3, .int 1]]), s) := by
  have hd := det_eq (a := ((c0 + b0) - (a0 + b0))) (b := ((c1 + b1) - (a1 + b1))) (c := ((c2 + b2) - (a2 + b2))) (d := ((d0 + b0) - (a0 + b0))) (e := ((d1 + b1) - (a1 + b1))) (f := ((d2 + b2) - (a2 + b2))) (g := (b0 - a0)) (h := (b1 - a1)) (i := (b2 - a2)) ⟨by have := hc0.1; have := hc0.2; have := hb0.1; have := hb0.2; have := ha0.1; have := ha0.2; have := hb0.1; have := hb0.2; omega, by have := hc0.1; have := hc0.2; have := hb0.1; have := hb0.2; have := ha0.1; have := ha0.2; have := hb0.1; have := hb0.2; omega⟩ ⟨by have := hc1.1; have := hc1.2; have := hb1.1; have := hb1.2; have := ha1.1; have := ha1.2; have := hb1.1; have := hb1.2; omega, by have := hc1.1; have := hc1.2; have := hb1.1; have := hb1.2; have := ha1.1; have := ha1.2; have := hb1.1; have := hb1.2; omega⟩ ⟨by have := hc2.1; have := hc2.2; have := hb2.1; have := hb2.2; have := ha2.1; have := ha2.2; have := hb2.1; have := hb2.2; omega, by have := hc2.1; have := hc2.2; have := hb2.1; have := hb2.2; have := ha2.1; have := ha2.2; have := hb2.1; have := hb2.2; omega⟩ ⟨by have := hd0.1; have := hd0.2; have := hb0.1; have := hb0.2; have := ha0.1; have := ha0.2; have := hb0.1; have := hb0.2; omega, by have := hd0.1; have := hd0.2; have := hb0.1; have := hb0.2; have := ha0.1; have := ha0.2; have := hb0.1; have := hb0.2; omega⟩ ⟨by have := hd1.1; have := hd1.2; have := hb1.1; have := hb1.2; have := ha1.1; have := ha1.2; have := hb1.1; have := hb1.2; omega, by have := hd1.1; have := hd1.2; have := hb1.1; have := hb1.2; have := ha1.1; have := ha1.2; have := hb1.1; have := hb1.2; omega⟩ ⟨by have := hd2.1; have := hd2.2; have := hb2.1; have := hb2.2; have := ha2.1; have := ha2.2; have := hb2.1; have := hb2.2; omega, by have := hd2.1; have := hd2.2; have := hb2.1; have := hb2.2; have := ha2.1; have := ha2.2; have := hb2.1; have := hb2.2; omega⟩ s
  have hT : denT G__law_cycle (.cmpT (.cm .lt) (.fn 1 esC) (.litI 0)) ([some (.py (W4 a0 a1 a2 b0 b1 b2 c0 c1 c2 d0 d1 d2)), some (.py (.tuple [.int 1, .int 0, .int 1, .int 1])), some (.py (.list [.int 0, .int 2, .int 3])), none, some (.py (.list [.int 1])), some (.py (.list [.tuple [.int 0, .int 1], .tuple [.int 2, .int 1], .tuple [.int 3, .int 1]])), some (.py (.int 3)), none, some (.py (.list [v3 (a0 + b0) (a1 + b1) (a2 + b2), v3 (c0 + b0) (c1 + b1) (c2 + b2), v3 (d0 + b0) (d1 + b1) (d2 + b2)])), none, some (.py (v3 ((c0 + b0) - (a0 + b0)) ((c1 + b1) - (a1 + b1)) ((c2 + b2) - (a2 + b2)))), some (.py (v3 ((d0 + b0) - (a0 + b0)) ((d1 + b1) - (a1 + b1)) ((d2 + b2) - (a2 + b2)))), none]) s = some (false, s) := by
    rw [cmp_ints (fn_val rfl (arg_11 a0 a1 a2 b0 b1 b2 c0 c1 c2 d0 d1 d2 s) rfl hd)]
    rw [sgn_11]
    generalize detI (b0 - a0) (b1 - a1) (b2 - a2) (c0 - a0) (c1 - a1) (c2 - a2) (d0 - a0) (d1 - a1) (d2 - a2) = x at six
    rw [show Cm.ints .lt (1 * x) 0 = false from decide_eq_false (by omega)]
  refine fn_of_rt ?_
  rw [steps_ok 9 (pre_11 a0 a1 a2 b0 b1 b2 c0 c1 c2 d0 d1 d2 s), restC]
  rw [cons_nx ((ifc_false hT).trans (show denCs G__law_cycle .nil _ s = some (Out.nx _ s) from rfl))]
  exact post_11 a0 a1 a2 b0 b1 b2 c0 c1 c2 d0 d1 d2 s
theorem sgn_12 (a0 a1 a2 b0 b1 b2 c0 c1 c2 d0 d1 d2 : Int) : detI ((a0 + d0) - (a0 + c0)) ((a1 + d1) - (a1 + c1)) ((a2 + d2) - (a2 + c2)) ((b0 + d0) - (a0 + c0)) ((b1 + d1) - (a1 + c1)) ((b2 + d2) - (a2 + c2)) (c0 - a0) (c1 - a1) (c2 - a2) = 1 * detI (b0 - a0) (b1 - a1) (b2 - a2) (c0 - a0) (c1 - a1) (c2 - a2) (d0 - a0) (d1 - a1) (d2 - a2) := by
  unfold detI
  grind
theorem pre_12 (a0 a1 a2 b0 b1 b2 c0 c1 c2 d0 d1 d2 : Int) (s : S) : steps G__law_cycle 9 c__law_cycle (Rf.envOf 13 [.py (W4 a0 a1 a2 b0 b1 b2 c0 c1 c2 d0 d1 d2), .py (.tuple [.int 1, .int 1, .int 0, .int 0])]) s = some ([some (.py (W4 a0 a1 a2 b0 b1 b2 c0 c1 c2 d0 d1 d2)), some (.py (.tuple [.int 1, .int 1, .int 0, .int 0])), some (.py (.list [.int 0, .int 1])), none, some (.py (.list [.int 2, .int 3])), some (.py (.list [.tuple [.int 0, .int 2], .tuple [.int 0, .int 3], .tuple [.int 1, .int 3], .tuple [.int 1, .int 2]])), some (.py (.int 1)), none, some (.py (.list [v3 (a0 + c0) (a1 + c1) (a2 + c2), v3 (a0 + d0) (a1 + d1) (a2 + d2), v3 (b0 + d0) (b1 + d1) (b2 + d2), v3 (b0 + c0) (b1 + c1) (b2 + c2)])), none, some (.py (v3 ((a0 + d0) - (a0 + c0)) ((a1 + d1) - (a1 + c1)) ((a2 + d2) - (a2 + c2)))), some (.py (v3 ((b0 + d0) - (a0 + c0)) ((b1 + d1) - (a1 + c1)) ((b2 + d2) - (a2 + c2)))), none], s) := by kernel_rfl
theorem arg_12 (a0 a1 a2 b0 b1 b2 c0 c1 c2 d0 d1 d2 : Int) (s : S) : denEs G__law_cycle esC ([some (.py (W4 a0 a1 a2 b0 b1 b2 c0 c1 c2 d0 d1 d2)), some (.py (.tuple [.int 1, .int 1, .int 0, .int 0])), some (.py (.list [.int 0, .int 1])), none, some (.py (.list [.int 2, .int 3])), some (.py (.list [.tuple [.int 0, .int 2], .tuple [.int 0, .int 3], .tuple [.int 1, .int 3], .tuple [.int 1, .int 2]])), some (.py (.int 1)), none, some (.py (.list [v3 (a0 + c0) (a1 + c1) (a2 + c2), v3 (a0 + d0) (a1 + d1) (a2 + d2), v3 (b0 + d0) (b1 + d1) (b2 + d2), v3 (b0 + c0) (b1 + c1) (b2 + c2)])), none, some (.py (v3 ((a0 + d0) - (a0 + c0)) ((a1 + d1) - (a1 + c1)) ((a2 + d2) - (a2 + c2)))), some (.py (v3 ((b0 + d0) - (a0 + c0)) ((b1 + d1) - (a1 + c1)) ((b2 + d2) - (a2 + c2)))), none]) s = some ([.py (v3 ((a0 + d0) - (a0 + c0)) ((a1 + d1) - (a1 + c1)) ((a2 + d2) - (a2 + c2))), .py (v3 ((b0 + d0) - (a0 + c0)) ((b1 + d1) - (a1 + c1)) ((b2 + d2) - (a2 + c2))), .py (v3 (c0 - a0) (c1 - a1) (c2 - a2))], s) := by kernel_rfl
theorem post_12 (a0 a1 a2 b0 b1 b2 c0 c1 c2 d0 d1 d2 : Int) (s : S) : denCs G__law_cycle rC ([some (.py (W4 a0 a1 a2 b0 b1 b2 c0 c1 c2 d0 d1 d2)), some (.py (.tuple [.int 1, .int 1, .int 0, .int 0])), some (.py (.list [.int 0, .int 1])), none, some (.py (.list [.int 2, .int 3])), some (.py (.list [.tuple [.int 0, .int 2], .tuple [.int 0, .int 3], .tuple [.int 1, .int 3], .tuple [.int 1, .int 2]])), some (.py (.int 1)), none, some (.py (.list [v3 (a0 + c0) (a1 + c1) (a2 + c2), v3 (a0 + d0) (a1 + d1) (a2 + d2), v3 (b0 + d0) (b1 + d1) (b2 + d2), v3 (b0 + c0) (b1 + c1) (b2 + c2)])), none, some (.py (v3 ((a0 + d0) - (a0 + c0)) ((a1 + d1) - (a1 + c1)) ((a2 + d2) - (a2 + c2)))), some (.py (v3 ((b0 + d0) - (a0 + c0)) ((b1 + d1) - (a1 + c1)) ((b2 + d2) - (a2 + c2)))), none]) s = some (.rt (.py (.tuple [.tuple [.int 0, .int 2], .tuple [.int 0, .int 3], .tuple [.int 1, .int 3], .tuple [.int 1, .int 2]])) s) := by kernel_rfl
theorem cyc_12 {a0 a1 a2 b0 b1 b2 c0 c1 c2 d0 d1 d2 : Int} (ha0 : Pt a0) (ha1 : Pt a1) (ha2 : Pt a2) (hb0 : Pt b0) (hb1 : Pt b1) (hb2 : Pt b2) (hc0 : Pt c0) (hc1 : Pt c1) (hc2 : Pt c2) (hd0 : Pt d0) (hd1 : Pt d1) (hd2 : Pt d2) (six : 0 < detI (b0 - a0) (b1 - a1) (b2 - a2) (c0 - a0) (c1 - a1) (c2 - a2) (d0 - a0) (d1 - a1) (d2 - a2)) (s : S) : d__law_cycle [.py (W4 a0 a1 a2 b0 b1 b2 c0 c1 c2 d0 d1 d2), .py (.tuple [.int 1, .int 1, .int 0, .int 0])] s = some (.py (.tuple [.tuple [.int 0, .int 2], .tuple [.int 0, .int 3], .tuple [.int 1, .int 3], .tuple [.int 1, .int 2]]), s) := by
  have hd := det_eq (a := ((a0 + d0) - (a0 + c0))) (b := ((a1 + d1) - (a1 + c1))) (c := ((a2 + d2) - (a2 + c2))) (d := ((b0 + d0) - (a0 + c0))) (e := ((b1 + d1) - (a1 + c1))) (f := ((b2 + d2) - (a2 + c2))) (g := (c0 - a0)) (h := (c1 - a1)) (i := (c2 - a2)) ⟨by have := ha0.1; have := ha0.2; have := hd0.1; have := hd0.2; have := ha0.1; have := ha0.2; have := hc0.1; have := hc0.2; omega, by have := ha0.1; have := ha0.2; have := hd0.1; have := hd0.2; have := ha0.1; have := ha0.2; have := hc0.1; have := hc0.2; omega⟩ ⟨by have := ha1.1; have := ha1.2; have := hd1.1; have := hd1.2; have := ha1.1; have := ha1.2; have := hc1.1; have := hc1.2; omega, by have := ha1.1; have := ha1.2; have := hd1.1; have := hd1.2; have := ha1.1; have := ha1.2; have := hc1.1; have := hc1.2; omega⟩ ⟨by have := ha2.1; have := ha2.2; have := hd2.1; have := hd2.2; have := ha2.1; have := ha2.2; have := hc2.1; have := hc2.2; omega, by have := ha2.1; have := ha2.2; have := hd2.1; have := hd2.2; have := ha2.1; have := ha2.2; have := hc2.1; have := hc2.2; omega⟩ ⟨by have := hb0.1; have := hb0.2; have := hd0.1; have := hd0.2; have := ha0.1; have := ha0.2; have := hc0.1; have := hc0.2; omega, by have := hb0.1; have := hb0.2; have := hd0.1; have := hd0.2; have := ha0.1; have := ha0.2; have := hc0.1; have := hc0.2; omega⟩ ⟨by have := hb1.1; have := hb1.2; have := hd1.1; have := hd1.2; have := ha1.1; have := ha1.2; have := hc1.1; have := hc1.2; omega, by have := hb1.1; have := hb1.2; have := hd1.1; have := hd1.2; have := ha1.1; have := ha1.2; have := hc1.1; have := hc1.2; omega⟩ ⟨by have := hb2.1; have := hb2.2; have := hd2.1; have := hd2.2; have := ha2.1; have := ha2.2; have := hc2.1; have := hc2.2; omega, by have := hb2.1; have := hb2.2; have := hd2.1; have := hd2.2; have := ha2.1; have := ha2.2; have := hc2.1; have := hc2.2; omega⟩ s
  have hT : denT G__law_cycle (.cmpT (.cm .lt) (.fn 1 esC) (.litI 0)) ([some (.py (W4 a0 a1 a2 b0 b1 b2 c0 c1 c2 d0 d1 d2)), some (.py (.tuple [.int 1, .int 1, .int 0, .int 0])), some (.py (.list [.int 0, .int 1])), none, some (.py (.list [.int 2, .int 3])), some (.py (.list [.tuple [.int 0, .int 2], .tuple [.int 0, .int 3], .tuple [.int 1, .int 3], .tuple [.int 1, .int 2]])), some (.py (.int 1)), none, some (.py (.list [v3 (a0 + c0) (a1 + c1) (a2 + c2), v3 (a0 + d0) (a1 + d1) (a2 + d2), v3 (b0 + d0) (b1 + d1) (b2 + d2), v3 (b0 + c0) (b1 + c1) (b2 + c2)])), none, some (.py (v3 ((a0 + d0) - (a0 + c0)) ((a1 + d1) - (a1 + c1)) ((a2 + d2) - (a2 + c2)))), some (.py (v3 ((b0 + d0) - (a0 + c0)) ((b1 + d1) - (a1 + c1)) ((b2 + d2) - (a2 + c2)))), none]) s = some (false, s) := by
    rw [cmp_ints (fn_val rfl (arg_12 a0 a1 a2 b0 b1 b2 c0 c1 c2 d0 d1 d2 s) rfl hd)]
    rw [sgn_12]
    generalize detI (b0 - a0) (b1 - a1) (b2 - a2) (c0 - a0) (c1 - a1) (c2 - a2) (d0 - a0) (d1 - a1) (d2 - a2) = x at six
    rw [show Cm.ints .lt (1 * x) 0 = false from decide_eq_false (by omega)]
  refine fn_of_rt ?_
  rw [steps_ok 9 (pre_12 a0 a1 a2 b0 b1 b2 c0 c1 c2 d0 d1 d2 s), restC]
  rw [cons_nx ((ifc_false hT).trans (show denCs G__law_cycle .nil _ s = some (Out.nx _ s) from rfl))]
  exact post_12 a0 a1 a2 b0 b1 b2 c0 c1 c2 d0 d1 d2 s
theorem sgn_13 (a0 a1 a2 b0 b1 b2 c0 c1 c2 d0 d1 d2 : Int) : detI ((b0 + c0) - (a0 + c0)) ((b1 + c1) - (a1 + c1)) ((b2 + c2) - (a2 + c2)) ((d0 + c0) - (a0 + c0)) ((d1 + c1) - (a1 + c1)) ((d2 + c2) - (a2 + c2)) (c0 - a0) (c1 - a1) (c2 - a2) = -1 * detI (b0 - a0) (b1 - a1) (b2 - a2) (c0 - a0) (c1 - a1) (c2 - a2) (d0 - a0) (d1 - a1) (d2 - a2) := by
  unfold detI
  grind
theorem pre_13 (a0 a1 a2 b0 b1 b2 c0 c1 c2 d0 d1 d2 : Int) (s : S) : steps G__law_cycle 9 c__law_cycle (Rf.envOf 13 [.py (W4 a0 a1 a2 b0 b1 b2 c0 c1 c2 d0 d1 d2), .py (.tuple [.int 1, .int 1, .int 0, .int 1])]) s = some ([some (.py (W4 a0 a1 a2 b0 b1 b2 c0 c1 c2 d0 d1 d2)), some (.py (.tuple [.int 1, .int 1, .int 0, .int 1])), some (.py (.list [.int 0, .int 1, .int 3])), none, some (.py (.list [.int 2])), some (.py (.list [.tuple [.int 0, .int 2], .tuple [.int 1, .int 2], .tuple [.int 3, .int 2]])), some (.py (.int 3)), none, some (.py (.list [v3 (a0 + c0) (a1 + c1) (a2 + c2), v3 (b0 + c0) (b1 + c1) (b2 + c2), v3 (d0 + c0) (d1 + c1) (d2 + c2)])), none, some (.py (v3 ((b0 + c0) - (a0 + c0)) ((b1 + c1) - (a1 + c1)) ((b2 + c2) - (a2 + c2)))), some (.py (v3 ((d0 + c0) - (a0 + c0)) ((d1 + c1) - (a1 + c1)) ((d2 + c2) - (a2 + c2)))), none], s) := by kernel_rfl
theorem arg_13 (a0 a1 a2 b0 b1 b2 c0 c1 c2 d0 d1 d2 : Int) (s : S) : denEs G__law_cycle esC ([some (.py (W4 a0 a1 a2 b0 b1 b2 c0 c1 c2 d0 d1 d2)), some (.py (.tuple [.int 1, .int 1, .int 0, .int 1])), some (.py (.list [.int 0, .int 1, .int 3])), none, some (.py (.list [.int 2])), some (.py (.list [.tuple [.int 0, .int 2], .tuple [.int 1, .int 2], .tuple [.int 3, .int 2]])), some (.py (.int 3)), none, some (.py (.list [v3 (a0 + c0) (a1 + c1) (a2 + c2), v3 (b0 + c0) (b1 + c1) (b2 + c2), v3 (d0 + c0) (d1 + c1) (d2 + c2)])), none, some (.py (v3 ((b0 + c0) - (a0 + c0)) ((b1 + c1) - (a1 + c1)) ((b2 + c2) - (a2 + c2)))), some (.py (v3 ((d0 + c0) - (a0 + c0)) ((d1 + c1) - (a1 + c1)) ((d2 + c2) - (a2 + c2)))), none]) s = some ([.py (v3 ((b0 + c0) - (a0 + c0)) ((b1 + c1) - (a1 + c1)) ((b2 + c2) - (a2 + c2))), .py (v3 ((d0 + c0) - (a0 + c0)) ((d1 + c1) - (a1 + c1)) ((d2 + c2) - (a2 + c2))), .py (v3 (c0 - a0) (c1 - a1) (c2 - a2))], s) := by kernel_rfl
theorem mid_13 (a0 a1 a2 b0 b1 b2 c0 c1 c2 d0 d1 d2 : Int) (s : S) : denCs G__law_cycle aC ([some (.py (W4 a0 a1 a2 b0 b1 b2 c0 c1 c2 d0 d1 d2)), some (.py (.tuple [.int 1, .int 1, .int 0, .int 1])), some (.py (.list [.int 0, .int 1, .int 3])), none, some (.py (.list [.int 2])), some (.py (.list [.tuple [.int 0, .int 2], .tuple [.int 1, .int 2], .tuple [.int 3, .int 2]])), some (.py (.int 3)), none, some (.py (.list [v3 (a0 + c0) (a1 + c1) (a2 + c2), v3 (b0 + c0) (b1 + c1) (b2 + c2), v3 (d0 + c0) (d1 + c1) (d2 + c2)])), none, some (.py (v3 ((b0 + c0) - (a0 + c0)) ((b1 + c1) - (a1 + c1)) ((b2 + c2) - (a2 + c2)))), some (.py (v3 ((d0 + c0) - (a0 + c0)) ((d1 + c1) - (a1 + c1)) ((d2 + c2) - (a2 + c2)))), none]) s = some (.nx ([some (.py (W4 a0 a1 a2 b0 b1 b2 c0 c1 c2 d0 d1 d2)), some (.py (.tuple [.int 1, .int 1, .int 0, .int 1])), some (.py (.list [.int 0, .int 1, .int 3])), none, some (.py (.list [.int 2])), some (.py (.list [.tuple [.int 3, .int 2], .tuple [.int 1, .int 2], .tuple [.int 0, .int 2]])), some (.py (.int 3)), none, some (.py (.list [v3 (a0 + c0) (a1 + c1) (a2 + c2), v3 (b0 + c0) (b1 + c1) (b2 + c2), v3 (d0 + c0) (d1 + c1) (d2 + c2)])), none, some (.py (v3 ((b0 + c0) - (a0 + c0)) ((b1 + c1) - (a1 + c1)) ((b2 + c2) - (a2 + c2)))), some (.py (v3 ((d0 + c0) - (a0 + c0)) ((d1 + c1) - (a1 + c1)) ((d2 + c2) - (a2 + c2)))), none]) s) := by kernel_rfl
theorem post_13 (a0 a1 a2 b0 b1 b2 c0 c1 c2 d0 d1 d2 : Int) (s : S) : denCs G__law_cycle rC ([some (.py (W4 a0 a1 a2 b0 b1 b2 c0 c1 c2 d0 d1 d2)), some (.py (.tuple [.int 1, .int 1, .int 0, .int 1])), some (.py (.list [.int 0, .int 1, .int 3])), none, some (.py (.list [.int 2])), some (.py (.list [.tuple [.int 3, .int 2], .tuple [.int 1, .int 2], .tuple [.int 0, .int 2]])), some (.py (.int 3)), none, some (.py (.list [v3 (a0 + c0) (a1 + c1) (a2 + c2), v3 (b0 + c0) (b1 + c1) (b2 + c2), v3 (d0 + c0) (d1 + c1) (d2 + c2)])), none, some (.py (v3 ((b0 + c0) - (a0 + c0)) ((b1 + c1) - (a1 + c1)) ((b2 + c2) - (a2 + c2)))), some (.py (v3 ((d0 + c0) - (a0 + c0)) ((d1 + c1) - (a1 + c1)) ((d2 + c2) - (a2 + c2)))), none]) s = some (.rt (.py (.tuple [.tuple [.int 0, .int 2], .tuple [.int 3, .int 2], .tuple [.int 1, .int 2]])) s) := by kernel_rfl
theorem cyc_13 {a0 a1 a2 b0 b1 b2 c0 c1 c2 d0 d1 d2 : Int} (ha0 : Pt a0) (ha1 : Pt a1) (ha2 : Pt a2) (hb0 : Pt b0) (hb1 : Pt b1) (hb2 : Pt b2) (hc0 : Pt c0) (hc1 : Pt c1) (hc2 : Pt c2) (hd0 : Pt d0) (hd1 : Pt d1) (hd2 : Pt d2) (six : 0 < detI (b0 - a0) (b1 - a1) (b2 - a2) (c0 - a0) (c1 - a1) (c2 - a2) (d0 - a0) (d1 - a1) (d2 - a2)) (s : S) : d__law_cycle [.py (W4 a0 a1 a2 b0 b1 b2 c0 c1 c2 d0 d1 d2), .py (.tuple [.int 1, .int 1, .int 0, .int 1])] s = some (.py (.tuple [.tuple [.int 0, .int 2], .tuple [.int 3, .int 2], .tuple [.int 1, .int 2]]), s) := by
  have hd := det_eq (a := ((b0 + c0) - (a0 + c0))) (b := ((b1 + c1) - (a1 + c1))) (c := ((b2 + c2) - (a2 + c2))) (d := ((d0 + c0) - (a0 + c0))) (e := ((d1 + c1) - (a1 + c1))) (f := ((d2 + c2) - (a2 + c2))) (g := (c0 - a0)) (h := (c1 - a1)) (i := (c2 - a2)) ⟨by have := hb0.1; have := hb0.2; have := hc0.1; have := hc0.2; have := ha0.1; have := ha0.2; have := hc0.1; have := hc0.2; omega, by have := hb0.1; have := hb0.2; have := hc0.1; have := hc0.2; have := ha0.1; have := ha0.2; have := hc0.1; have := hc0.2; omega⟩ ⟨by have := hb1.1; have := hb1.2; have := hc1.1; have := hc1.2; have := ha1.1; have := ha1.2; have := hc1.1; have := hc1.2; omega, by have := hb1.1; have := hb1.2; have := hc1.1; have := hc1.2; have := ha1.1; have := ha1.2; have := hc1.1; have := hc1.2; omega⟩ ⟨by have := hb2.1; have := hb2.2; have := hc2.1; have := hc2.2; have := ha2.1; have := ha2.2; have := hc2.1; have := hc2.2; omega, by have := hb2.1; have := hb2.2; have := hc2.1; have := hc2.2; have := ha2.1; have := ha2.2; have := hc2.1; have := hc2.2; omega⟩ ⟨by have := hd0.1; have := hd0.2; have := hc0.1; have := hc0.2; have := ha0.1; have := ha0.2; have := hc0.1; have := hc0.2; omega, by have := hd0.1; have := hd0.2; have := hc0.1; have := hc0.2; have := ha0.1; have := ha0.2; have := hc0.1; have := hc0.2; omega⟩ ⟨by have := hd1.1; have := hd1.2; have := hc1.1; have := hc1.2; have := ha1.1; have := ha1.2; have := hc1.1; have := hc1.2; omega, by have := hd1.1; have := hd1.2; have := hc1.1; have := hc1.2; have := ha1.1; have := ha1.2; have := hc1.1; have := hc1.2; omega⟩ ⟨by have := hd2.1; have := hd2.2; have := hc2.1; have := hc2.2; have := ha2.1; have := ha2.2; have := hc2.1; have := hc2.2; omega, by have := hd2.1; have := hd2.2; have := hc2.1; have := hc2.2; have := ha2.1; have := ha2.2; have := hc2.1; have := hc2.2; omega⟩ s
  have hT : denT G__law_cycle (.cmpT (.cm .lt) (.fn 1 esC) (.litI 0)) ([some (.py (W4 a0 a1 a2 b0 b1 b2 c0 c1 c2 d0 d1 d2)), some (.py (.tuple [.int 1, .int 1, .int 0, .int 1])), some (.py (.list [.int 0, .int 1, .int 3])), none, some (.py (.list [.int 2])), some (.py (.list [.tuple [.int 0, .int 2], .tuple [.int 1, .int 2], .tuple [.int 3, .int 2]])), some (.py (.int 3)), none, some (.py (.list [v3 (a0 + c0) (a1 + c1) (a2 + c2), v3 (b0 + c0) (b1 + c1) (b2 + c2), v3 (d0 + c0) (d1 + c1) (d2 + c2)])), none, some (.py (v3 ((b0 + c0) - (a0 + c0)) ((b1 + c1) - (a1 + c1)) ((b2 + c2) - (a2 + c2)))), some (.py (v3 ((d0 + c0) - (a0 + c0)) ((d1 + c1) - (a1 + c1)) ((d2 + c2) - (a2 + c2)))), none]) s = some (true, s) := by
    rw [cmp_ints (fn_val rfl (arg_13 a0 a1 a2 b0 b1 b2 c0 c1 c2 d0 d1 d2 s) rfl hd)]
    rw [sgn_13]
    generalize detI (b0 - a0) (b1 - a1) (b2 - a2) (c0 - a0) (c1 - a1) (c2 - a2) (d0 - a0) (d1 - a1) (d2 - a2) = x at six
    rw [show Cm.ints .lt (-1 * x) 0 = true from decide_eq_true (by omega)]
  refine fn_of_rt ?_
  rw [steps_ok 9 (pre_13 a0 a1 a2 b0 b1 b2 c0 c1 c2 d0 d1 d2 s), restC]
  rw [cons_nx ((ifc_true hT).trans (mid_13 a0 a1 a2 b0 b1 b2 c0 c1 c2 d0 d1 d2 s))]
  exact post_13 a0 a1 a2 b0 b1 b2 c0 c1 c2 d0 d1 d2 s
theorem sgn_14 (a0 a1 a2 b0 b1 b2 c0 c1 c2 d0 d1 d2 : Int) : detI ((b0 + d0) - (a0 + d0)) ((b1 + d1) - (a1 + d1)) ((b2 + d2) - (a2 + d2)) ((c0 + d0) - (a0 + d0)) ((c1 + d1) - (a1 + d1)) ((c2 + d2) - (a2 + d2)) (d0 - a0) (d1 - a1) (d2 - a2) = 1 * detI (b0 - a0) (b1 - a1) (b2 - a2) (c0 - a0) (c1 - a1) (c2 - a2) (d0 - a0) (d1 - a1) (d2 - a2) := by
  unfold detI
  grind
theorem pre_14 (a0 a1 a2 b0 b1 b2 c0 c1 c2 d0 d1 d2 : Int) (s : S) : steps G__law_cycle 9 c__law_cycle (Rf.envOf 13 [.py (W4 a0 a1 a2 b0 b1 b2 c0 c1 c2 d0 d1 d2), .py (.tuple [.int 1, .int 1, .int 1, .int 0])]) s = some ([some (.py (W4 a0 a1 a2 b0 b1 b2 c0 c1 c2 d0 d1 d2)), some (.py (.tuple [.int 1, .int 1, .int 1, .int 0])), some (.py (.list [.int 0, .int 1, .int 2])), none, some (.py (.list [.int 3])), some (.py (.list [.tuple [.int 0, .int 3], .tuple [.int 1, .int 3], .tuple [.int 2, .int 3]])), some (.py (.int 2)), none, some (.py (.list [v3 (a0 + d0) (a1 + d1) (a2 + d2), v3 (b0 + d0) (b1 + d1) (b2 + d2), v3 (c0 + d0) (c1 + d1) (c2 + d2)])), none, some (.py (v3 ((b0 + d0) - (a0 + d0)) ((b1 + d1) - (a1 + d1)) ((b2 + d2) - (a2 + d2)))), some (.py (v3 ((c0 + d0) - (a0 + d0)) ((c1 + d1) - (a1 + d1)) ((c2 + d2) - (a2 + d2)))), none], s) := by kernel_rfl
theorem arg_14 (a0 a1 a2 b0 b1 b2 c0 c1 c2 d0 d1 d2 : Int) (s : S) : denEs G__law_cycle esC ([some (.py (W4 a0 a1 a2 b0 b1 b2 c0 c1 c2 d0 d1 d2)), some (.py (.tuple [.int 1, .int 1, .int 1, .int 0])), some (.py (.list [.int 0, .int 1, .int 2])), none, some (.py (.list [.int 3])), some (.py (.list [.tuple [.int 0, .int 3], .tuple [.int 1, .int 3], .tuple [.int 2, .int 3]])), some (.py (.int 2)), none, some (.py (.list [v3 (a0 + d0) (a1 + d1) (a2 + d2), v3 (b0 + d0) (b1 + d1) (b2 + d2), v3 (c0 + d0) (c1 + d1) (c2 + d2)])), none, some (.py (v3 ((b0 + d0) - (a0 + d0)) ((b1 + d1) - (a1 + d1)) ((b2 + d2) - (a2 + d2)))), some (.py (v3 ((c0 + d0) - (a0 + d0)) ((c1 + d1) - (a1 + d1)) ((c2 + d2) - (a2 + d2)))), none]) s = some ([.py (v3 ((b0 + d0) - (a0 + d0)) ((b1 + d1) - (a1 + d1)) ((b2 + d2) - (a2 + d2))), .py (v3 ((c0 + d0) - (a0 + d0)) ((c1 + d1) - (a1 + d1)) ((c2 + d2) - (a2 + d2))), .py (v3 (d0 - a0) (d1 - a1) (d2 - a2))], s) := by kernel_rfl
theorem post_14 (a0 a1 a2 b0 b1 b2 c0 c1 c2 d0 d1 d2 : Int) (s : S) : denCs G__law_cycle rC ([some (.py (W4 a0 a1 a2 b0 b1 b2 c0 c1 c2 d0 d1 d2)), some (.py (.tuple [.int 1, .int 1, .int 1, .int 0])), some (.py (.list [.int 0, .int 1, .int 2])), none, some (.py (.list [.int 3])), some (.py (.list [.tuple [.int 0, .int 3], .tuple [.int 1, .int 3], .tuple [.int 2, .int 3]])), some (.py (.int 2)), none, some (.py (.list [v3 (a0 + d0) (a1 + d1) (a2 + d2), v3 (b0 + d0) (b1 + d1) (b2 + d2), v3 (c0 + d0) (c1 + d1) (c2 + d2)])), none, some (.py (v3 ((b0 + d0) - (a0 + d0)) ((b1 + d1) - (a1 + d1)) ((b2 + d2) - (a2 + d2)))), some (.py (v3 ((c0 + d0) - (a0 + d0)) ((c1 + d1) - (a1 + d1)) ((c2 + d2) - (a2 + d2)))), none]) s = some (.rt (.py (.tuple [.tuple [.int 0, .int 3], .tuple [.int 1, .int 3], .tuple [.int 2, .int 3]])) s) := by kernel_rfl
theorem cyc_14 {a0 a1 a2 b0 b1 b2 c0 c1 c2 d0 d1 d2 : Int} (ha0 : Pt a0) (ha1 : Pt a1) (ha2 : Pt a2) (hb0 : Pt b0) (hb1 : Pt b1) (hb2 : Pt b2) (hc0 : Pt c0) (hc1 : Pt c1) (hc2 : Pt c2) (hd0 : Pt d0) (hd1 : Pt d1) (hd2 : Pt d2) (six : 0 < detI (b0 - a0) (b1 - a1) (b2 - a2) (c0 - a0) (c1 - a1) (c2 - a2) (d0 - a0) (d1 - a1) (d2 - a2)) (s : S) : d__law_cycle [.py (W4 a0 a1 a2 b0 b1 b2 c0 c1 c2 d0 d1 d2), .py (.tuple [.int 1, .int 1, .int 1, .int 0])] s = some (.py (.tuple [.tuple [.int 0, .int 3], .tuple [.int 1, .int 3], .tuple [.int 2, .int 3]]), s) := by
  have hd := det_eq (a := ((b0 + d0) - (a0 + d0))) (b := ((b1 + d1) - (a1 + d1))) (c := ((b2 + d2) - (a2 + d2))) (d := ((c0 + d0) - (a0 + d0))) (e := ((c1 + d1) - (a1 + d1))) (f := ((c2 + d2) - (a2 + d2))) (g := (d0 - a0)) (h := (d1 - a1)) (i := (d2 - a2)) ⟨by have := hb0.1; have := hb0.2; have := hd0.1; have := hd0.2; have := ha0.1; have := ha0.2; have := hd0.1; have := hd0.2; omega, by have := hb0.1; have := hb0.2; have := hd0.1; have := hd0.2; have := ha0.1; have := ha0.2; have := hd0.1; have := hd0.2; omega⟩ ⟨by have := hb1.1; have := hb1.2; have := hd1.1; have := hd1.2; have := ha1.1; have := ha1.2; have := hd1.1; have := hd1.2; omega, by have := hb1.1; have := hb1.2; have := hd1.1; have := hd1.2; have := ha1.1; have := ha1.2; have := hd1.1; have := hd1.2; omega⟩ ⟨by have := hb2.1; have := hb2.2; have := hd2.1; have := hd2.2; have := ha2.1; have := ha2.2; have := hd2.1; have := hd2.2; omega, by have := hb2.1; have := hb2.2; have := hd2.1; have := hd2.2; have := ha2.1; have := ha2.2; have := hd2.1; have := hd2.2; omega⟩ ⟨by have := hc0.1; have := hc0.2; have := hd0.1; have := hd0.2; have := ha0.1; have := ha0.2; have := hd0.1; have := hd0.2; omega, by have := hc0.1; have := hc0.2; have := hd0.1; have := hd0.2; have := ha0.1; have := ha0.2; have := hd0.1; have := hd0.2; omega⟩ ⟨by have := hc1.1; have := hc1.2; have := hd1.1; have := hd1.2; have := ha1.1; have := ha1.2; have := hd1.1; have := hd1.2; omega, by have := hc1.1; have := hc1.2; have := hd1.1; have := hd1.2; have := ha1.1; have := ha1.2; have := hd1.1; have := hd1.2; omega⟩ ⟨by have := hc2.1; have := hc2.2; have := hd2.1; have := hd2.2; have := ha2.1; have := ha2.2; have := hd2.1; have := hd2.2; omega, by have := hc2.1; have := hc2.2; have := hd2.1; have := hd2.2; have := ha2.1; have := ha2.2; have := hd2.1; have := hd2.2; omega⟩ s
  have hT : denT G__law_cycle (.cmpT (.cm .lt) (.fn 1 esC) (.litI 0)) ([some (.py (W4 a0 a1 a2 b0 b1 b2 c0 c1 c2 d0 d1 d2)), some (.py (.tuple [.int 1, .int 1, .int 1, .int 0])), some (.py (.list [.int 0, .int 1, .int 2])), none, some (.py (.list [.int 3])), some (.py (.list [.tuple [.int 0, .int 3], .tuple [.int 1, .int 3], .tuple [.int 2, .int 3]])), some (.py (.int 2)), none, some (.py (.list [v3 (a0 + d0) (a1 + d1) (a2 + d2), v3 (b0 + d0) (b1 + d1) (b2 + d2), v3 (c0 + d0) (c1 + d1) (c2 + d2)])), none, some (.py (v3 ((b0 + d0) - (a0 + d0)) ((b1 + d1) - (a1 + d1)) ((b2 + d2) - (a2 + d2)))), some (.py (v3 ((c0 + d0) - (a0 + d0)) ((c1 + d1) - (a1 + d1)) ((c2 + d2) - (a2 + d2)))), none]) s = some (false, s) := by
    rw [cmp_ints (fn_val rfl (arg_14 a0 a1 a2 b0 b1 b2 c0 c1 c2 d0 d1 d2 s) rfl hd)]
    rw [sgn_14]
    generalize detI (b0 - a0) (b1 - a1) (b2 - a2) (c0 - a0) (c1 - a1) (c2 - a2) (d0 - a0) (d1 - a1) (d2 - a2) = x at six
    rw [show Cm.ints .lt (1 * x) 0 = false from decide_eq_false (by omega)]
  refine fn_of_rt ?_
  rw [steps_ok 9 (pre_14 a0 a1 a2 b0 b1 b2 c0 c1 c2 d0 d1 d2 s), restC]
  rw [cons_nx ((ifc_false hT).trans (show denCs G__law_cycle .nil _ s = some (Out.nx _ s) from rfl))]
  exact post_14 a0 a1 a2 b0 b1 b2 c0 c1 c2 d0 d1 d2 s
theorem cyc_15 {a0 a1 a2 b0 b1 b2 c0 c1 c2 d0 d1 d2 : Int} (ha0 : Pt a0) (ha1 : Pt a1) (ha2 : Pt a2) (hb0 : Pt b0) (hb1 : Pt b1) (hb2 : Pt b2) (hc0 : Pt c0) (hc1 : Pt c1) (hc2 : Pt c2) (hd0 : Pt d0) (hd1 : Pt d1) (hd2 : Pt d2) (six : 0 < detI (b0 - a0) (b1 - a1) (b2 - a2) (c0 - a0) (c1 - a1) (c2 - a2) (d0 - a0) (d1 - a1) (d2 - a2)) (s : S) : d__law_cycle [.py (W4 a0 a1 a2 b0 b1 b2 c0 c1 c2 d0 d1 d2), .py (.tuple [.int 1, .int 1, .int 1, .int 1])] s = some (.py (.tuple []), s) := by
  kernel_rfl

/-! ### the draws -/
def B40 : Int := 1099511627776
theorem lc_draws {fe : FE} {env : EnvD} {i c : Nat} {P : PyData → Prop} (hfe : ∀ (e : EnvD) (s : S), e[0]? = env[0]? → 0 ≤ s.2 → s.2 + c ≤ B40 → ∃ d s', fe e s = some (.py d, s') ∧ P d ∧ s'.2 = s.2 + c) (hi : i ≠ 0) :
    ∀ (n : Nat) (lo : Int) (s : S), 0 ≤ s.2 → s.2 + n * c ≤ B40 → ∃ ds s', lcLoop (gSet i) tTrue fe env (rngP lo n) s = some (ds, s') ∧ ds.length = n ∧ (∀ d ∈ ds, P d) ∧ s'.2 = s.2 + n * c
  | 0, lo, s, h0, h1 => ⟨[], s, rfl, rfl, fun d h => absurd h (by simp), by simp⟩
  | n + 1, lo, s, h0, h1 => by
    have hc : ((n + 1 : Nat) : Int) * c = n * c + c := by rw [Int.natCast_add, Int.add_mul]; simp
    rw [hc] at h1
    have hn : (0 : Int) ≤ n * c := Int.mul_nonneg (by omega) (by omega)
    obtain ⟨d, s1, e1, p1, q1⟩ := hfe (env.set i (some (.py (.int lo)))) s (List.getElem?_set_ne hi) h0 (by omega)
    obtain ⟨ds, s2, e2, l2, p2, q2⟩ := lc_draws hfe hi n (lo + 1) s1 (by omega) (by omega)
    refine ⟨d :: ds, s2, ?_, by rw [List.length_cons, l2], fun x hx => ?_, by rw [hc]; omega⟩
    · show lcLoop (gSet i) tTrue fe env (.int lo :: rngP (lo + 1) n) s = _
      unfold lcLoop
      show (fe (env.set i (some (.py (.int lo)))) s).bind _ = _
      rw [e1]
      show (lcLoop (gSet i) tTrue fe env (rngP (lo + 1) n) s1).map _ = _
      rw [e2]
      rfl
    · rcases List.mem_cons.mp hx with z | z
      · rw [z]; exact p1
      · exact p2 x z
def IsPt (d : PyData) : Prop := ∃ r : Int, d = .int r ∧ Pt r
def IsV (d : PyData) : Prop := ∃ a b c : Int, d = v3 a b c ∧ Pt a ∧ Pt b ∧ Pt c
def drE : E := .fn 0 (.cons (.var 0) (.cons (.litI 13) (.nil)))
def inE : E := .lc [] [2] (.name 2) (.range1 (.litI 3)) (.none) (.fn 0 (.cons (.var 0) (.cons (.litI 13) (.nil))))
def ouE : E := .lc [] [3] (.name 3) (.range1 (.litI 4)) (.none) (.lc [] [2] (.name 2) (.range1 (.litI 3)) (.none) (.fn 0 (.cons (.var 0) (.cons (.litI 13) (.nil)))))
theorem dr_ok (e : EnvD) (s : S) (h : e[0]? = some (some .deck)) (h0 : 0 ≤ s.2) (h1 : s.2 + (1 : Nat) ≤ B40) : ∃ d s', denE G__law_turned_wedge drE e s = some (.py d, s') ∧ IsPt d ∧ s'.2 = s.2 + (1 : Nat) := by
  obtain ⟨r, s', e1, e2, e3, e4⟩ := drawS_ok (m := 13) (s := s) (by decide) (by decide) h0 (by unfold B40 at h1; omega)
  refine ⟨.int r, s', ?_, ⟨r, rfl, e2, e3⟩, e4⟩
  refine fn_val rfl (ds := [.deck, .py (.int 13)]) (s1 := s) ?_ rfl e1
  show (fVar 0 e s).bind _ = _
  unfold fVar
  rw [h]
  rfl
theorem in_ok (e : EnvD) (s : S) (h : e[0]? = some (some .deck)) (h0 : 0 ≤ s.2) (h1 : s.2 + (3 : Nat) ≤ B40) : ∃ d s', denE G__law_turned_wedge inE e s = some (.py d, s') ∧ IsV d ∧ s'.2 = s.2 + (3 : Nat) := by
  have h2 : (e.set 2 none)[0]? = some (some .deck) := by rw [List.getElem?_set_ne (by decide)]; exact h
  obtain ⟨ds, s', e1, l1, p1, q1⟩ := lc_draws (fe := denE G__law_turned_wedge drE) (env := e.set 2 none) (i := 2) (c := 1) (P := IsPt) (fun e' s z a b => dr_ok e' s (z.trans h2) a b) (by decide) 3 0 s h0 (by omega)
  match ds, l1 with
  | [x, y, z], _ =>
    obtain ⟨a, rfl, ha⟩ := p1 x (by simp)
    obtain ⟨b, rfl, hb⟩ := p1 y (by simp)
    obtain ⟨c, rfl, hc⟩ := p1 z (by simp)
    refine ⟨v3 a b c, s', ?_, ⟨a, b, c, rfl, ha, hb, hc⟩, by omega⟩
    show (lcLoop (gSet 2) tTrue (denE G__law_turned_wedge drE) (e.set 2 none) (rngP 0 3) s).bind _ = _
    rw [e1]
    rfl
theorem ou_ok (s : S) (h0 : 0 ≤ s.2) (h1 : s.2 + 12 ≤ B40) : ∃ a0 a1 a2 b0 b1 b2 c0 c1 c2 d0 d1 d2 s', denE G__law_turned_wedge ouE [some .deck, none, none, none, none, none] s = some (.py (W4 a0 a1 a2 b0 b1 b2 c0 c1 c2 d0 d1 d2), s') ∧
    (Pt a0 ∧ Pt a1 ∧ Pt a2) ∧ (Pt b0 ∧ Pt b1 ∧ Pt b2) ∧ (Pt c0 ∧ Pt c1 ∧ Pt c2) ∧ (Pt d0 ∧ Pt d1 ∧ Pt d2) := by
  obtain ⟨ds, s', e1, l1, p1, q1⟩ := lc_draws (fe := denE G__law_turned_wedge inE) (env := [some .deck, none, none, none, none, none]) (i := 3) (c := 3) (P := IsV) (fun e' s z a b => in_ok e' s z a b) (by decide) 4 0 s h0 (by omega)
  match ds, l1 with
  | [x, y, z, t], _ =>
    obtain ⟨a0, a1, a2, rfl, ha⟩ := p1 x (by simp)
    obtain ⟨b0, b1, b2, rfl, hb⟩ := p1 y (by simp)
    obtain ⟨c0, c1, c2, rfl, hc⟩ := p1 z (by simp)
    obtain ⟨d0, d1, d2, rfl, hd⟩ := p1 t (by simp)
    refine ⟨a0, a1, a2, b0, b1, b2, c0, c1, c2, d0, d1, d2, s', ?_, ha, hb, hc, hd⟩
    show (lcLoop (gSet 3) tTrue (denE G__law_turned_wedge inE) [some .deck, none, none, none, none, none] (rngP 0 4) s).bind _ = _
    rw [e1]
    rfl
def six (a0 a1 a2 b0 b1 b2 c0 c1 c2 d0 d1 d2 : Int) : Int := detI (b0 - a0) (b1 - a1) (b2 - a2) (c0 - a0) (c1 - a1) (c2 - a2) (d0 - a0) (d1 - a1) (d2 - a2)
def daE : Es := .cons (.ix (.var 4) (.litI 0)) (.cons (.ix (.var 4) (.litI 1)) (.cons (.ix (.var 4) (.litI 2)) (.nil)))
theorem tw_rest : c__law_turned_wedge = .cons (.set 1 ouE) [] (.cons (.set 4 (.lc [] [3] (.name 3) (.seq (.tup (.cons (.litI 1) (.cons (.litI 2) (.cons (.litI 3) (.nil)))))) (.none) (.fn 1 (.cons (.ix (.var 1) (.var 3)) (.cons (.ix (.var 1) (.litI 0)) (.nil)))))) [] (.cons (.set 5 (.fn 2 daE)) [] (.cons (.iff (.cmpT .eq (.var 5) (.litI 0)) (.cons (.ret (.lst (.cons (.lst (.cons (.litI 0) (.cons (.litI 0) (.cons (.litI 0) (.nil))))) (.cons (.lst (.cons (.litI 1) (.cons (.litI 0) (.cons (.litI 0) (.nil))))) (.cons (.lst (.cons (.litI 0) (.cons (.litI 2) (.cons (.litI 0) (.nil))))) (.cons (.lst (.cons (.litI 0) (.cons (.litI 0) (.cons (.litI 3) (.nil))))) (.nil))))))) [] (.nil)) .nil) [] (.cons (.iff (.cmpT (.cm .lt) (.var 5) (.litI 0)) (.cons (.ret (.lst (.cons (.ix (.var 1) (.litI 0)) (.cons (.ix (.var 1) (.litI 1)) (.cons (.ix (.var 1) (.litI 3)) (.cons (.ix (.var 1) (.litI 2)) (.nil))))))) [] (.nil)) .nil) [] (.cons (.ret (.var 1)) [] (.nil)))))) := by kernel_rfl
theorem sm_sub {x y : Int} (hx : Pt x) (hy : Pt y) : Sm (x - y) := ⟨by have := hx.1; have := hy.2; omega, by have := hx.2; have := hy.1; omega⟩
theorem swap_six (a0 a1 a2 b0 b1 b2 c0 c1 c2 d0 d1 d2 : Int) : six a0 a1 a2 b0 b1 b2 d0 d1 d2 c0 c1 c2 = - six a0 a1 a2 b0 b1 b2 c0 c1 c2 d0 d1 d2 := by
  unfold six detI
  grind
theorem tw_ok (s : S) (h0 : 0 ≤ s.2) (h1 : s.2 + 12 ≤ B40) : ∃ a0 a1 a2 b0 b1 b2 c0 c1 c2 d0 d1 d2 s', d__law_turned_wedge [.deck] s = some (.py (W4 a0 a1 a2 b0 b1 b2 c0 c1 c2 d0 d1 d2), s') ∧
    (Pt a0 ∧ Pt a1 ∧ Pt a2) ∧ (Pt b0 ∧ Pt b1 ∧ Pt b2) ∧ (Pt c0 ∧ Pt c1 ∧ Pt c2) ∧ (Pt d0 ∧ Pt d1 ∧ Pt d2) ∧ 0 < six a0 a1 a2 b0 b1 b2 c0 c1 c2 d0 d1 d2 := by
  obtain ⟨a0, a1, a2, b0, b1, b2, c0, c1, c2, d0, d1, d2, s', e1, ha, hb, hc, hd⟩ := ou_ok s h0 h1
  have hdet := det_eq (a := b0 - a0) (b := b1 - a1) (c := b2 - a2) (d := c0 - a0) (e := c1 - a1) (f := c2 - a2) (g := d0 - a0) (h := d1 - a1) (i := d2 - a2) (sm_sub hb.1 ha.1) (sm_sub hb.2.1 ha.2.1) (sm_sub hb.2.2 ha.2.2) (sm_sub hc.1 ha.1) (sm_sub hc.2.1 ha.2.1) (sm_sub hc.2.2 ha.2.2) s'
  have hargs : denEs G__law_turned_wedge daE [some .deck, some (.py (W4 a0 a1 a2 b0 b1 b2 c0 c1 c2 d0 d1 d2)), none, none, some (.py (.list [v3 (b0 - a0) (b1 - a1) (b2 - a2), v3 (c0 - a0) (c1 - a1) (c2 - a2), v3 (d0 - a0) (d1 - a1) (d2 - a2)])), none] s' = some ([.py (v3 (b0 - a0) (b1 - a1) (b2 - a2)), .py (v3 (c0 - a0) (c1 - a1) (c2 - a2)), .py (v3 (d0 - a0) (d1 - a1) (d2 - a2))], s') := by kernel_rfl
  have hpre : ∀ r, denCs G__law_turned_wedge c__law_turned_wedge (Rf.envOf 6 [.deck]) s = r ↔ denCs G__law_turned_wedge (.cons (.iff (.cmpT .eq (.var 5) (.litI 0)) (.cons (.ret (.lst (.cons (.lst (.cons (.litI 0) (.cons (.litI 0) (.cons (.litI 0) (.nil))))) (.cons (.lst (.cons (.litI 1) (.cons (.litI 0) (.cons (.litI 0) (.nil))))) (.cons (.lst (.cons (.litI 0) (.cons (.litI 2) (.cons (.litI 0) (.nil))))) (.cons (.lst (.cons (.litI 0) (.cons (.litI 0) (.cons (.litI 3) (.nil))))) (.nil))))))) [] (.nil)) .nil) [] (.cons (.iff (.cmpT (.cm .lt) (.var 5) (.litI 0)) (.cons (.ret (.lst (.cons (.ix (.var 1) (.litI 0)) (.cons (.ix (.var 1) (.litI 1)) (.cons (.ix (.var 1) (.litI 3)) (.cons (.ix (.var 1) (.litI 2)) (.nil))))))) [] (.nil)) .nil) [] (.cons (.ret (.var 1)) [] (.nil)))) [some .deck, some (.py (W4 a0 a1 a2 b0 b1 b2 c0 c1 c2 d0 d1 d2)), none, none, some (.py (.list [v3 (b0 - a0) (b1 - a1) (b2 - a2), v3 (c0 - a0) (c1 - a1) (c2 - a2), v3 (d0 - a0) (d1 - a1) (d2 - a2)])), some (.py (.int (six a0 a1 a2 b0 b1 b2 c0 c1 c2 d0 d1 d2)))] s' = r := by
    intro r
    rw [tw_rest, cons_nx (set_val (show denE G__law_turned_wedge ouE (Rf.envOf 6 [.deck]) s = _ from e1))]
    rw [cons_nx (show denC G__law_turned_wedge (.set 4 (.lc [] [3] (.name 3) (.seq (.tup (.cons (.litI 1) (.cons (.litI 2) (.cons (.litI 3) (.nil)))))) (.none) (.fn 1 (.cons (.ix (.var 1) (.var 3)) (.cons (.ix (.var 1) (.litI 0)) (.nil)))))) (List.set (Rf.envOf 6 [.deck]) 1 (some (.py (W4 a0 a1 a2 b0 b1 b2 c0 c1 c2 d0 d1 d2)))) s' = some (.nx [some .deck, some (.py (W4 a0 a1 a2 b0 b1 b2 c0 c1 c2 d0 d1 d2)), none, none, some (.py (.list [v3 (b0 - a0) (b1 - a1) (b2 - a2), v3 (c0 - a0) (c1 - a1) (c2 - a2), v3 (d0 - a0) (d1 - a1) (d2 - a2)])), none] s') by kernel_rfl)]
    rw [cons_nx (set_val (fn_val rfl hargs rfl hdet))]
    rfl
  by_cases z : six a0 a1 a2 b0 b1 b2 c0 c1 c2 d0 d1 d2 = 0
  · refine ⟨0, 0, 0, 1, 0, 0, 0, 2, 0, 0, 0, 3, s', ?_, ?_, ?_, ?_, ?_, by decide⟩
    · refine fn_of_rt ((hpre _).mpr ?_)
      rw [z]
      kernel_rfl
    all_goals exact ⟨⟨by decide, by decide⟩, ⟨by decide, by decide⟩, ⟨by decide, by decide⟩⟩
  · have hT1 : ∀ x : Int, x ≠ 0 → (x == 0) = false := fun x h => beq_eq_false_iff_ne.mpr h
    by_cases ng : six a0 a1 a2 b0 b1 b2 c0 c1 c2 d0 d1 d2 < 0
    · refine ⟨a0, a1, a2, b0, b1, b2, d0, d1, d2, c0, c1, c2, s', ?_, ha, hb, hd, hc, by rw [swap_six]; omega⟩
      refine fn_of_rt ((hpre _).mpr ?_)
      rw [cons_nx ((ifc_false (by rw [eq_ints (show denE G__law_turned_wedge (.var 5) _ s' = some (.py (.int (six a0 a1 a2 b0 b1 b2 c0 c1 c2 d0 d1 d2)), s') from rfl), hT1 _ z])).trans (show denCs G__law_turned_wedge .nil _ s' = some (Out.nx _ s') from rfl))]
      refine cons_rt ((ifc_true (by rw [cmp_ints (show denE G__law_turned_wedge (.var 5) _ s' = some (.py (.int (six a0 a1 a2 b0 b1 b2 c0 c1 c2 d0 d1 d2)), s') from rfl), show Cm.ints .lt (six a0 a1 a2 b0 b1 b2 c0 c1 c2 d0 d1 d2) 0 = true from decide_eq_true ng])).trans ?_)
      kernel_rfl
    · refine ⟨a0, a1, a2, b0, b1, b2, c0, c1, c2, d0, d1, d2, s', ?_, ha, hb, hc, hd, by omega⟩
      refine fn_of_rt ((hpre _).mpr ?_)
      rw [cons_nx ((ifc_false (by rw [eq_ints (show denE G__law_turned_wedge (.var 5) _ s' = some (.py (.int (six a0 a1 a2 b0 b1 b2 c0 c1 c2 d0 d1 d2)), s') from rfl), hT1 _ z])).trans (show denCs G__law_turned_wedge .nil _ s' = some (Out.nx _ s') from rfl))]
      rw [cons_nx ((ifc_false (by rw [cmp_ints (show denE G__law_turned_wedge (.var 5) _ s' = some (.py (.int (six a0 a1 a2 b0 b1 b2 c0 c1 c2 d0 d1 d2)), s') from rfl), show Cm.ints .lt (six a0 a1 a2 b0 b1 b2 c0 c1 c2 d0 d1 d2) 0 = false from decide_eq_false ng])).trans (show denCs G__law_turned_wedge .nil _ s' = some (Out.nx _ s') from rfl))]
      kernel_rfl
/-! ### the law -/
theorem for_step {fg : FG} {fb : FS} {p : PyData} {ps : List PyData} {env e1 e2 : EnvD} {s s2 : S} (h1 : fg env p = some e1) (h2 : fb e1 s = some (.nx e2 s2)) : forLoop fg fb (p :: ps) env s = forLoop fg fb ps e2 s2 := by
  show (fg env p).bind _ = _
  rw [h1]
  show (fb e1 s).bind _ = _
  rw [h2]
  rfl
theorem tup2 {Γ : Tb} {a b : E} {env : EnvD} {s s1 s2 : S} {p q : PyData} (ha : denE Γ a env s = some (.py p, s1)) (hb : denE Γ b env s1 = some (.py q, s2)) : denE Γ (.tup (.cons a (.cons b .nil))) env s = some (.py (.tuple [p, q]), s2) := by
  show (aCons (denE Γ a) (aCons (denE Γ b) aNil) env s).bind _ = _
  unfold aCons
  rw [ha]
  show ((((denE Γ b) env s1).bind _).map _).bind _ = _
  rw [hb]
  rfl
theorem app_val {Γ : Tb} {i : Nat} {e : E} {env : EnvD} {s s1 : S} {ds : List PyData} {q : PyData} (h : denE Γ e env s = some (.py q, s1)) (hi : env[i]? = some (some (.py (.list ds)))) (hl : ds.length < big) : denC Γ (.app i e) env s = some (.nx (env.set i (some (.py (.list (ds ++ [q]))))) s1) := by
  show (denE Γ e env s).bind _ = _
  rw [h]
  show (match env[i]?, D.py q with | some (some (.py (.list ds))), .py q => if ds.length < big then some (Out.nx (env.set i (some (.py (.list (ds ++ [q]))))) s1) else none | _, _ => none) = _
  rw [hi]
  exact if_pos hl
def kdE : E := .tup (.cons (.bin .fdiv (.var 4) (.litI 8)) (.cons (.bin .mod (.bin .fdiv (.var 4) (.litI 4)) (.litI 2)) (.cons (.bin .mod (.bin .fdiv (.var 4) (.litI 2)) (.litI 2)) (.cons (.bin .mod (.var 4) (.litI 2)) (.nil)))))
def bdC : Cs := .cons (.set 5 kdE) [3] (.cons (.app 3 (.tup (.cons (.var 5) (.cons (.fn 1 (.cons (.var 2) (.cons (.var 5) .nil))) .nil)))) [3] .nil)
theorem body_step {ds : List PyData} {x5 : Option D} {w p kd cy : PyData} {s : S} (hk : denE G_law kdE [none, some .deck, some (.py w), some (.py (.list ds)), some (.py p), x5] s = some (.py kd, s)) (hc : d__law_cycle [.py w, .py kd] s = some (.py cy, s)) (hl : ds.length < big) :
    denCs G_law bdC [none, some .deck, some (.py w), some (.py (.list ds)), some (.py p), x5] s = some (.nx [none, some .deck, some (.py w), some (.py (.list (ds ++ [.tuple [kd, cy]]))), some (.py p), some (.py kd)] s) := by
  unfold bdC
  rw [cons_nx (set_val hk)]
  rw [cons_nx (app_val (ds := ds) (q := .tuple [kd, cy]) (tup2 (p := kd) (q := cy) (s1 := s) rfl (fn_val rfl (ds := [.py w, .py kd]) (s1 := s) rfl rfl hc)) rfl hl)]
  rfl
def rtE : E := .andV (.cons (.fn 2 (.cons (.fn 3 (.nil)) (.cons (.blt .tuple (.cons (.var 3) (.nil))) (.nil)))) (.one (.fn 2 (.cons (.fn 3 (.nil)) (.cons (.blt .tuple (.cons (.var 3) (.nil))) (.nil))))))
theorem law_shape : c_law = .cons (.set 2 (.fn 0 (.cons (.var 1) (.nil)))) [] (.cons (.new 3) [3] (.cons (.for_ (.name 4) (.range1 (.litI 16)) bdC) [3] (.frz 3 (.cons (.ret rtE) [] .nil)))) := by kernel_rfl
theorem loop_ok {a0 a1 a2 b0 b1 b2 c0 c1 c2 d0 d1 d2 : Int} (ha : Pt a0 ∧ Pt a1 ∧ Pt a2) (hb : Pt b0 ∧ Pt b1 ∧ Pt b2) (hc : Pt c0 ∧ Pt c1 ∧ Pt c2) (hd : Pt d0 ∧ Pt d1 ∧ Pt d2) (hs : 0 < six a0 a1 a2 b0 b1 b2 c0 c1 c2 d0 d1 d2) (s : S) :
    forLoop (gSet 4) (denCs G_law bdC) (rngP 0 16) [none, some .deck, some (.py (W4 a0 a1 a2 b0 b1 b2 c0 c1 c2 d0 d1 d2)), some (.py (.list [])), none, none] s = some (.nx [none, some .deck, some (.py (W4 a0 a1 a2 b0 b1 b2 c0 c1 c2 d0 d1 d2)), some (.py (.list [.tuple [.tuple [.int 0, .int 0, .int 0, .int 0], .tuple []], .tuple [.tuple [.int 0, .int 0, .int 0, .int 1], .tuple [.tuple [.int 3, .int 0], .tuple [.int 3, .int 2], .tuple [.int 3, .int 1]]], .tuple [.tuple [.int 0, .int 0, .int 1, .int 0], .tuple [.tuple [.int 2, .int 0], .tuple [.int 2, .int 1], .tuple [.int 2, .int 3]]], .tuple [.tuple [.int 0, .int 0, .int 1, .int 1], .tuple [.tuple [.int 2, .int 0], .tuple [.int 2, .int 1], .tuple [.int 3, .int 1], .tuple [.int 3, .int 0]]], .tuple [.tuple [.int 0, .int 1, .int 0, .int 0], .tuple [.tuple [.int 1, .int 0], .tuple [.int 1, .int 3], .tuple [.int 1, .int 2]]], .tuple [.tuple [.int 0, .int 1, .int 0, .int 1], .tuple [.tuple [.int 1, .int 0], .tuple [.int 3, .int 0], .tuple [.int 3, .int 2], .tuple [.int 1, .int 2]]], .tuple [.tuple [.int 0, .int 1, .int 1, .int 0], .tuple [.tuple [.int 1, .int 0], .tuple [.int 1, .int 3], .tuple [.int 2, .int 3], .tuple [.int 2, .int 0]]], .tuple [.tuple [.int 0, .int 1, .int 1, .int 1], .tuple [.tuple [.int 1, .int 0], .tuple [.int 3, .int 0], .tuple [.int 2, .int 0]]], .tuple [.tuple [.int 1, .int 0, .int 0, .int 0], .tuple [.tuple [.int 0, .int 1], .tuple [.int 0, .int 2], .tuple [.int 0, .int 3]]], .tuple [.tuple [.int 1, .int 0, .int 0, .int 1], .tuple [.tuple [.int 0, .int 1], .tuple [.int 0, .int 2], .tuple [.int 3, .int 2], .tuple [.int 3, .int 1]]], .tuple [.tuple [.int 1, .int 0, .int 1, .int 0], .tuple [.tuple [.int 0, .int 1], .tuple [.int 2, .int 1], .tuple [.int 2, .int 3], .tuple [.int 0, .int 3]]], .tuple [.tuple [.int 1, .int 0, .int 1, .int 1], .tuple [.tuple [.int 0, .int 1], .tuple [.int 2, .int 1], .tuple [.int 3, .int 1]]], .tuple [.tuple [.int 1, .int 1, .int 0, .int 0], .tuple [.tuple [.int 0, .int 2], .tuple [.int 0, .int 3], .tuple [.int 1, .int 3], .tuple [.int 1, .int 2]]], .tuple [.tuple [.int 1, .int 1, .int 0, .int 1], .tuple [.tuple [.int 0, .int 2], .tuple [.int 3, .int 2], .tuple [.int 1, .int 2]]], .tuple [.tuple [.int 1, .int 1, .int 1, .int 0], .tuple [.tuple [.int 0, .int 3], .tuple [.int 1, .int 3], .tuple [.int 2, .int 3]]], .tuple [.tuple [.int 1, .int 1, .int 1, .int 1], .tuple []]])), some (.py (.int 15)), some (.py (.tuple [.int 1, .int 1, .int 1, .int 1]))] s) := by
  refine (for_step rfl (body_step (kd := .tuple [.int 0, .int 0, .int 0, .int 0]) (cy := .tuple []) (by kernel_rfl) (cyc_0 ha.1 ha.2.1 ha.2.2 hb.1 hb.2.1 hb.2.2 hc.1 hc.2.1 hc.2.2 hd.1 hd.2.1 hd.2.2 hs s) (by decide))).trans ?_
  refine (for_step rfl (body_step (kd := .tuple [.int 0, .int 0, .int 0, .int 1]) (cy := .tuple [.tuple [.int 3, .int 0], .tuple [.int 3, .int 2], .tuple [.int 3, .int 1]]) (by kernel_rfl) (cyc_1 ha.1 ha.2.1 ha.2.2 hb.1 hb.2.1 hb.2.2 hc.1 hc.2.1 hc.2.2 hd.1 hd.2.1 hd.2.2 hs s) (by decide))).trans ?_
  refine (for_step rfl (body_step (kd := .tuple [.int 0, .int 0, .int 1, .int 0]) (cy := .tuple [.tuple [.int 2, .int 0], .tuple [.int 2, .int 1], .tuple [.int 2, .int 3]]) (by kernel_rfl) (cyc_2 ha.1 ha.2.1 ha.2.2 hb.1 hb.2.1 hb.2.2 hc.1 hc.2.1 hc.2.2 hd.1 hd.2.1 hd.2.2 hs s) (by decide))).trans ?_
  refine (for_step rfl (body_step (kd := .tuple [.int 0, .int 0, .int 1, .int 1]) (cy := .tuple [.tuple [.int 2, .int 0], .tuple [.int 2, .int 1], .tuple [.int 3, .int 1], .tuple [.int 3, .int 0]]) (by kernel_rfl) (cyc_3 ha.1 ha.2.1 ha.2.2 hb.1 hb.2.1 hb.2.2 hc.1 hc.2.1 hc.2.2 hd.1 hd.2.1 hd.2.2 hs s) (by decide))).trans ?_
  refine (for_step rfl (body_step (kd := .tuple [.int 0, .int 1, .int 0, .int 0]) (cy := .tuple [.tuple [.int 1, .int 0], .tuple [.int 1, .int 3], .tuple [.int 1, .int 2]]) (by kernel_rfl) (cyc_4 ha.1 ha.2.1 ha.2.2 hb.1 hb.2.1 hb.2.2 hc.1 hc.2.1 hc.2.2 hd.1 hd.2.1 hd.2.2 hs s) (by decide))).trans ?_
  refine (for_step rfl (body_step (kd := .tuple [.int 0, .int 1, .int 0, .int 1]) (cy := .tuple [.tuple [.int 1, .int 0], .tuple [.int 3, .int 0], .tuple [.int 3, .int 2], .tuple [.int 1, .int 2]]) (by kernel_rfl) (cyc_5 ha.1 ha.2.1 ha.2.2 hb.1 hb.2.1 hb.2.2 hc.1 hc.2.1 hc.2.2 hd.1 hd.2.1 hd.2.2 hs s) (by decide))).trans ?_
  refine (for_step rfl (body_step (kd := .tuple [.int 0, .int 1, .int 1, .int 0]) (cy := .tuple [.tuple [.int 1, .int 0], .tuple [.int 1, .int 3], .tuple [.int 2, .int 3], .tuple [.int 2, .int 0]]) (by kernel_rfl) (cyc_6 ha.1 ha.2.1 ha.2.2 hb.1 hb.2.1 hb.2.2 hc.1 hc.2.1 hc.2.2 hd.1 hd.2.1 hd.2.2 hs s) (by decide))).trans ?_
  refine (for_step rfl (body_step (kd := .tuple [.int 0, .int 1, .int 1, .int 1]) (cy := .tuple [.tuple [.int 1, .int 0], .tuple [.int 3, .int 0], .tuple [.int 2, .int 0]]) (by kernel_rfl) (cyc_7 ha.1 ha.2.1 ha.2.2 hb.1 hb.2.1 hb.2.2 hc.1 hc.2.1 hc.2.2 hd.1 hd.2.1 hd.2.2 hs s) (by decide))).trans ?_
  refine (for_step rfl (body_step (kd := .tuple [.int 1, .int 0, .int 0, .int 0]) (cy := .tuple [.tuple [.int 0, .int 1], .tuple [.int 0, .int 2], .tuple [.int 0, .int 3]]) (by kernel_rfl) (cyc_8 ha.1 ha.2.1 ha.2.2 hb.1 hb.2.1 hb.2.2 hc.1 hc.2.1 hc.2.2 hd.1 hd.2.1 hd.2.2 hs s) (by decide))).trans ?_
  refine (for_step rfl (body_step (kd := .tuple [.int 1, .int 0, .int 0, .int 1]) (cy := .tuple [.tuple [.int 0, .int 1], .tuple [.int 0, .int 2], .tuple [.int 3, .int 2], .tuple [.int 3, .int 1]]) (by kernel_rfl) (cyc_9 ha.1 ha.2.1 ha.2.2 hb.1 hb.2.1 hb.2.2 hc.1 hc.2.1 hc.2.2 hd.1 hd.2.1 hd.2.2 hs s) (by decide))).trans ?_
  refine (for_step rfl (body_step (kd := .tuple [.int 1, .int 0, .int 1, .int 0]) (cy := .tuple [.tuple [.int 0, .int 1], .tuple [.int 2, .int 1], .tuple [.int 2, .int 3], .tuple [.int 0, .int 3]]) (by kernel_rfl) (cyc_10 ha.1 ha.2.1 ha.2.2 hb.1 hb.2.1 hb.2.2 hc.1 hc.2.1 hc.2.2 hd.1 hd.2.1 hd.2.2 hs s) (by decide))).trans ?_
  refine (for_step rfl (body_step (kd := .tuple [.int 1, .int 0, .int 1, .int 1]) (cy := .tuple [.tuple [.int 0, .int 1], .tuple [.int 2, .int 1], .tuple [.int 3, .int 1]]) (by kernel_rfl) (cyc_11 ha.1 ha.2.1 ha.2.2 hb.1 hb.2.1 hb.2.2 hc.1 hc.2.1 hc.2.2 hd.1 hd.2.1 hd.2.2 hs s) (by decide))).trans ?_
  refine (for_step rfl (body_step (kd := .tuple [.int 1, .int 1, .int 0, .int 0]) (cy := .tuple [.tuple [.int 0, .int 2], .tuple [.int 0, .int 3], .tuple [.int 1, .int 3], .tuple [.int 1, .int 2]]) (by kernel_rfl) (cyc_12 ha.1 ha.2.1 ha.2.2 hb.1 hb.2.1 hb.2.2 hc.1 hc.2.1 hc.2.2 hd.1 hd.2.1 hd.2.2 hs s) (by decide))).trans ?_
  refine (for_step rfl (body_step (kd := .tuple [.int 1, .int 1, .int 0, .int 1]) (cy := .tuple [.tuple [.int 0, .int 2], .tuple [.int 3, .int 2], .tuple [.int 1, .int 2]]) (by kernel_rfl) (cyc_13 ha.1 ha.2.1 ha.2.2 hb.1 hb.2.1 hb.2.2 hc.1 hc.2.1 hc.2.2 hd.1 hd.2.1 hd.2.2 hs s) (by decide))).trans ?_
  refine (for_step rfl (body_step (kd := .tuple [.int 1, .int 1, .int 1, .int 0]) (cy := .tuple [.tuple [.int 0, .int 3], .tuple [.int 1, .int 3], .tuple [.int 2, .int 3]]) (by kernel_rfl) (cyc_14 ha.1 ha.2.1 ha.2.2 hb.1 hb.2.1 hb.2.2 hc.1 hc.2.1 hc.2.2 hd.1 hd.2.1 hd.2.2 hs s) (by decide))).trans ?_
  refine (for_step rfl (body_step (kd := .tuple [.int 1, .int 1, .int 1, .int 1]) (cy := .tuple []) (by kernel_rfl) (cyc_15 ha.1 ha.2.1 ha.2.2 hb.1 hb.2.1 hb.2.2 hc.1 hc.2.1 hc.2.2 hd.1 hd.2.1 hd.2.2 hs s) (by decide))).trans ?_
  rfl
theorem for_val {Γ : Tb} {g : G} {it : I} {b : Cs} {env : EnvD} {s s1 : S} {ds : List PyData} (h : denI Γ it env s = some (ds, s1)) : denC Γ (.for_ g it b) env s = forLoop (denG Γ g) (denCs Γ b) ds env s1 := by
  show (denI Γ it env s).bind _ = _
  rw [h]
  rfl
theorem law_val (ns : List Int) (h : ns.length ≤ 63) : ∃ s', denCs G_law c_law (none :: some .deck :: List.replicate 4 none) (ns.map absI, 0) = some (.rt (.py (.bool true)) s') := by
  obtain ⟨a0, a1, a2, b0, b1, b2, c0, c1, c2, d0, d1, d2, s', e1, ha, hb, hc, hd, hs⟩ := tw_ok (ns.map absI, 0) (show (0 : Int) ≤ 0 by decide) (show (0 : Int) + 12 ≤ B40 by decide)
  refine ⟨s', ?_⟩
  rw [law_shape]
  have g1 : denC G_law (.set 2 (.fn 0 (.cons (.var 1) (.nil)))) (none :: some .deck :: List.replicate 4 none) (ns.map absI, 0) = some (.nx [none, some .deck, some (.py (W4 a0 a1 a2 b0 b1 b2 c0 c1 c2 d0 d1 d2)), none, none, none] s') := set_val (fn_val rfl (ds := [.deck]) (s1 := (ns.map absI, 0)) rfl rfl e1)
  have g2 : denC G_law (.new 3) [none, some .deck, some (.py (W4 a0 a1 a2 b0 b1 b2 c0 c1 c2 d0 d1 d2)), none, none, none] s' = some (.nx [none, some .deck, some (.py (W4 a0 a1 a2 b0 b1 b2 c0 c1 c2 d0 d1 d2)), some (.py (.list [])), none, none] s') := by kernel_rfl
  have g3 : denI G_law (.range1 (.litI 16)) [none, some .deck, some (.py (W4 a0 a1 a2 b0 b1 b2 c0 c1 c2 d0 d1 d2)), some (.py (.list [])), none, none] s' = some (rngP 0 16, s') := by kernel_rfl
  have g4 := (for_val (g := .name 4) (b := bdC) g3).trans (loop_ok ha hb hc hd hs s')
  rw [cons_nx g1, cons_nx g2, cons_nx g4]
  refine (show denCs G_law (.cons (.ret rtE) [] .nil) _ s' = some (Out.rt (.py (.bool true)) s') from cons_rt (ret_val ?_))
  kernel_rfl

section
variable {P : Program} {w : World} {K : PySem.W.Frag} {mg : Str → Option Value} {base : Heap}
theorem ok__law_deck {f : Addr} {fd : FuncData} {lv : Nat} (F : Fun K "_law_deck" "_law_deck" s__law_deck f fd) (ma : mg "abs" = none) : FnOk P w K mg base CX0 (lv + 1) f fd ["_law_script"] (spDeck K) := by
  refine F.ok sc__law_deck (fun vs H Q E h => ?_) (fun cdv A outer s H vs Q E hr h => ?_)
  · obtain ⟨a, ns, rfl, _⟩ := h
    rfl
  · obtain ⟨a, ns, rfl, hS, hlen, q⟩ := h
    refine ⟨_, pss_one (ps_ret (pe_lst (pa_cons (pe_lc (own := [("_law_cell", 1)]) (g := gName 1) (tt := tYes) rfl sc__law_deck.nd (pi_list (pe_slice sl_list (pv 0) po_none (po_some pe_int)))
        (blkOk_by (N := ["_law_script", "_law_cell"]) (sc := defScope s__law_deck) (by decide +kernel)) (fun _ _ _ _ _ => pg_name (i := 1) sc__law_deck.nd rfl (.inl rfl)) (fun _ _ _ _ _ => pts_nil)
        (fun _ _ _ _ _ => pe_callB call_abs (by rfl) ma boot_abs (pa_cons (pv 1) pa_nil))) (pa_cons pe_int pa_nil)))), ?_⟩
    have hcut : cutV (ns.map V.int) none (some 63) = ns.map V.int := by
      unfold cutV
      rw [HT.sIx_none, show HT.sIx (ns.map V.int).length (ns.map V.int).length (some 63) = min 63 (ns.map V.int).length from HT.sIx_nat _ _ 63, List.drop_zero]
      exact List.take_of_length_le (by rw [List.length_map]; omega)
    refine ⟨.ref a, rfl, 63, rfl, a, _, rfl, hS, fun c nc => ?_⟩
    rw [hcut]
    refine ⟨c, rfl, ⟨_, SqL.of upd_same⟩, fun D nD => ?_⟩
    have ncD : c ≠ D := fun e => by rw [← e, upd_same] at nD; cases nD
    have hD : H D = none := by rw [upd_ne ncD.symm] at nD; exact nD
    refine lc_list (K := K) (a := c) (xs := ns.map V.int) (fun i H3 => H3 c = some (.lst (ns.map V.int)) ∧ H3 D = some (.lst (((ns.map absI).take i).map V.int)) ∧ Same H H3) ⟨?_, upd_same, ?_⟩ (fun i H3 _ h => SqL.of h.1) (fun i x H3 hx h => ?_) (fun H3 h => ?_)
    · rw [upd_ne ncD]; exact upd_same
    · intro b o e
      rw [upd_ne (ne_of_none e hD), upd_ne (ne_of_none e nc)]
      exact e
    · obtain ⟨h1, h2, h3⟩ := h
      have hi : i < ns.length := by
        have := (List.getElem?_eq_some_iff.mp hx).1
        rw [List.length_map] at this
        exact this
      rw [List.getElem?_map, List.getElem?_eq_getElem hi] at hx
      cases hx
      refine ⟨rfl, .int ns[i], rfl, ns[i], rfl, _, h2, ?_, ?_, ?_, ?_⟩
      · rw [List.length_map, List.length_take, List.length_map, sizeLine_eq]
        omega
      · rw [upd_ne ncD]; exact h1
      · rw [upd_same, List.take_add_one, List.getElem?_map, List.getElem?_eq_getElem hi, List.map_append]
        rfl
      · intro b o e
        rw [upd_ne (ne_of_none e hD)]
        exact h3 b o e
    · obtain ⟨h1, h2, h3⟩ := h
      rw [List.length_map] at h2
      rw [List.take_of_length_le (by rw [List.length_map]; exact Nat.le_refl _)] at h2
      refine ⟨by show 2 ≤ sizeLine; decide, fun p np => ?_⟩
      have hp : H p = none := by
        cases e : H p with
        | none => rfl
        | some o => rw [h3 p o e] at np; cases np
      have npD : D ≠ p := ne_of_none h2 np
      exact q p D _ (fun b o e => by rw [upd_ne (ne_of_none (h3 b o e) np)]; exact h3 b o e) npD.symm hp hD upd_same (by rw [upd_ne npD]; exact h2)
theorem ok__law_draw {f : Addr} {fd : FuncData} {lv : Nat} (F : Fun K "_law_draw" "_law_draw" s__law_draw f fd) (ml : mg "len" = none) (k : Dk) : FnOk P w K mg base CX0 (lv + 1) f fd ["_law_deck_here", "_law_many"] (spOf K k 2 drawG) := by
  refine F.ok sc__law_draw (fun vs H Q E h => h.1) (fun cdv A outer s H vs Q E hr h => ?_)
  · obtain ⟨hl, Fz, ds, sd, d, s', ok, r, hg, q⟩ := h
    unfold drawG at hg
    split at hg
    · rename_i m
      obtain ⟨v, u, rfl, rv, ru⟩ := reps2 r
      cases rv
      cases ru
      refine ⟨_, pss_cons (ps_asg (pe_op op_add (pe_ix ix_list (pv 0) pe_int (fun _ _ => rfl)) pe_int) (pg_sub (pv 0) pe_int set_list))
        (pss_cons (ps_set (i := 2) sc__law_draw.nd rfl (.inl rfl) pe_int)
        (pss_cons (ps_set (i := 3) sc__law_draw.nd rfl (.inl rfl) (pe_un un_neg pe_int))
        (pss_cons (ps_if (pt_cmpR op_gt (pe_callB call_len_seq (by rfl) ml PySem.boot_len (pa_cons (pe_ix ix_list (pv 0) pe_int (fun _ _ => rfl)) pa_nil)) pe_int (nomark _))
            (pss_cons (ps_set (i := 3) sc__law_draw.nd rfl (.inl rfl) (pe_op op_mod (pe_ix ix_list (pv 0) pe_int (fun _ _ => rfl)) (pe_callB call_len_seq (by rfl) ml PySem.boot_len (pa_cons (pe_ix ix_list (pv 0) pe_int (fun _ _ => rfl)) pa_nil))))
            (pss_one (ps_set (i := 2) sc__law_draw.nd rfl (.inl rfl) (pe_ix ix_list (pe_ix ix_list (pv 0) pe_int (fun _ _ => rfl)) (pv 3) (fun _ _ => rfl))))) pss_nil)
        (pss_cons (ps_if (pt_cmpR op_ge (pv 2) (pe_op op_pow pe_int pe_int) (nomark _))
            (pss_cons (ps_asg (pe_op op_fdiv (pv 2) (pv 1)) (pg_sub (pe_ix ix_list (pv 0) pe_int (fun _ _ => rfl)) (pv 3) set_list))
            (pss_one (ps_ret (pe_op op_mod (pv 2) (pv 1))))) pss_nil)
        (pss_one (ps_ret (pe_op op_mod (pe_op op_mod (pe_op op_pow (pe_op op_add (pe_op op_add (pe_op op_mod (pv 2) pe_int) (pe_op op_mul pe_int (pe_ix ix_list (pv 0) pe_int (fun _ _ => rfl)))) pe_int) pe_int) pe_int) (pv 1)))))))), ?_⟩
      unfold drawS at hg
      split at hg
      · rename_i hc
        simp only [Bool.and_eq_true, decide_eq_true_eq] at hc
        obtain ⟨⟨hm, hm2⟩, h0, h1⟩ := hc
        refine ⟨.ref k.a, rfl, k.a, _, 1, .int sd.2, rfl, rfl, SqL.of ok.da, rfl, sd.2, 1, rfl, rfl, .ref k.a, rfl, k.a, _, 1, 1, rfl, rfl, ok.da, rfl, ?_⟩
        refine ⟨1, rfl, ?_⟩
        -- the deck with one draw more
        generalize hH1 : upd H k.a (.lst (List.set [.ref k.b, .int sd.2] 1 (.int (sd.2 + 1)))) = H1
        have da1 : H1 k.a = some (.lst [.ref k.b, .int (sd.2 + 1)]) := by rw [← hH1]; exact upd_same
        have db1 : H1 k.b = some (.lst (sd.1.map .int)) := by rw [← hH1, upd_ne ok.ab.symm]; exact ok.db
        have kp1 : ∀ a o, a ≠ k.a → H a = some o → H1 a = some o := fun a o n h => by rw [← hH1, upd_ne n]; exact h
        have ok1 : Ok k Fz H1 (sd.1, sd.2 + 1) := ⟨fun a f => by
            have na : a ≠ k.a := fun e => ok.na (e ▸ f)
            rw [← hH1, upd_ne na]
            exact ok.fok a f, ok.ab, ok.na, ok.nb, da1, db1, ok.sz⟩
        have st1 : Stp k Fz Fz H H1 := ⟨fun _ z => z, fun a o n _ h => kp1 a o n h, fun _ z => .inl z⟩
        -- the last row
        have fin : ∀ (c : Int) (pl : Option V), (some (V.int ((c % 2147483587 + 7919 * (sd.2 + 1) + 1) ^ 5 % 2147483647 % m)) = some (V.int ((c % 2147483587 + 7919 * (sd.2 + 1) + 1) ^ 5 % 2147483647 % m))) → Q (.int ((c % 2147483587 + 7919 * (sd.2 + 1) + 1) ^ 5 % 2147483647 % m)) H1 →
            (tRet (tOp (rI (fun _ j => 0 < j) fun i j => .int (i % j)) (tOp (rI (fun _ j => 0 < j) fun i j => .int (i % j)) (tOp (rI CPow fun i j => .int (i ^ j.toNat)) (tOp (rI0 fun i j => .int (i + j)) (tOp (rI0 fun i j => .int (i + j)) (tOp (rI (fun _ j => 0 < j) fun i j => .int (i % j)) (tVar 2) (tC (.int 2147483587))) (tOp (rI CMul fun i j => .int (i * j)) (tC (.int 7919)) (tOp (rIxL K) (tVar 0) (tC (.int 1))))) (tC (.int 1))) (tC (.int 5))) (tC (.int 2147483647))) (tVar 1)))
              { nx := fun _ H' => Q .non H', rt := Q } [some (.ref k.a), some (.int m), some (.int c), pl] H1 := by
          intro c pl _ hq
          have e1 : 0 ≤ c % 2147483587 := Int.emod_nonneg _ (by decide)
          have e2 : c % 2147483587 < 2147483587 := Int.emod_lt_of_pos _ (by decide)
          refine ⟨.int c, rfl, c, 2147483587, rfl, rfl, (show (0 : Int) < 2147483587 by decide), .ref k.a, rfl, k.a, _, 1, .int (sd.2 + 1), rfl, rfl, SqL.of da1, rfl, 7919, sd.2 + 1, rfl, rfl, .inl (by decide), _, _, rfl, rfl, _, 1, rfl, rfl, _, 5, rfl, rfl, ⟨by decide, by decide, ?_⟩, _, 2147483647, rfl, rfl, (show (0 : Int) < 2147483647 by decide), .int m, rfl, _, m, rfl, rfl, hm, hq⟩
          omega
        refine ⟨.ref k.a, rfl, k.a, _, 0, .ref k.b, rfl, rfl, SqL.of da1, rfl, k.b, _, rfl, .inl (SqL.of db1), _, 0, rfl, rfl, _, rfl, ?_⟩
        rw [List.length_map]
        have p18 : ((10 : Int) ^ (18 : Int).toNat) = 1000000000000000000 := by decide
        by_cases hn : 0 < sd.1.length
        · -- a cell is read
          have hidx : ((sd.2 + 1) % (sd.1.length : Int)).toNat < sd.1.length := by
            have a1 := Int.emod_nonneg (sd.2 + 1) (show (sd.1.length : Int) ≠ 0 by omega)
            have a2 := Int.emod_lt_of_pos (sd.2 + 1) (show (0 : Int) < sd.1.length by omega)
            omega
          rw [List.getElem?_eq_getElem hidx] at hg
          generalize hj : ((sd.2 + 1) % (sd.1.length : Int)).toNat = j at hidx hg
          have hji : (sd.2 + 1) % (sd.1.length : Int) = (j : Int) := by
            have a1 := Int.emod_nonneg (sd.2 + 1) (show (sd.1.length : Int) ≠ 0 by omega)
            omega
          generalize hcell : sd.1[j] = c at hg
          simp only at hg
          have gj : (sd.1.map V.int)[j]? = some (.int c) := by rw [List.getElem?_map, List.getElem?_eq_getElem hidx, hcell]; rfl
          refine ifT (decide_eq_true (by omega)) ?_
          refine ⟨.ref k.a, rfl, k.a, _, 1, .int (sd.2 + 1), rfl, rfl, SqL.of da1, rfl, .ref k.a, rfl, k.a, _, 0, .ref k.b, rfl, rfl, SqL.of da1, rfl, k.b, _, rfl, .inl (SqL.of db1), sd.2 + 1, _, rfl, rfl, (by rw [List.length_map]; omega), ?_⟩
          refine ⟨.ref k.a, rfl, k.a, _, 0, .ref k.b, rfl, rfl, SqL.of da1, rfl, .int ((sd.2 + 1) % ((sd.1.map V.int).length : Int)), rfl, k.b, _, _, .int c, rfl, rfl, SqL.of db1, (by rw [List.length_map, hji]; exact atI_nat gj), ?_⟩
          refine ⟨.int c, rfl, 10, 18, rfl, rfl, ⟨by decide, by decide, by decide⟩, c, _, rfl, rfl, _, rfl, ?_⟩
          by_cases hbig : c ≥ 1000000000000000000
          · rw [if_pos hbig] at hg
            cases hg
            refine ifT (decide_eq_true (by rw [p18]; exact hbig)) ?_
            refine ⟨.int c, rfl, .int m, rfl, c, m, rfl, rfl, ⟨hm, hm2⟩, .ref k.a, rfl, k.a, _, 0, .ref k.b, rfl, rfl, SqL.of da1, rfl, .int ((sd.2 + 1) % ((sd.1.map V.int).length : Int)), rfl, k.b, _, _, j, rfl, rfl, db1, ?_, ?_⟩
            · rw [List.length_map, hji]
              unfold ixN
              rw [if_pos (by omega), if_pos (by omega)]
              rfl
            · refine ⟨.int c, rfl, .int m, rfl, c, m, rfl, rfl, hm, ?_⟩
              have ab : k.a ≠ k.b := ok.ab
              refine q _ Fz _ ⟨fun _ z => z, fun a o n1 n2 h => by rw [upd_ne n2]; exact kp1 a o n1 h, fun _ z => .inl z⟩ ⟨fun a f => ?_, ok.ab, ok.na, ok.nb, by rw [upd_ne ab]; exact da1, ?_, by rw [List.length_set]; exact ok.sz⟩ (.int _)
              · have nb : a ≠ k.b := fun e => ok.nb (e ▸ f)
                rw [upd_ne nb]
                exact ok1.fok a f
              · rw [upd_same, List.map_set]
          · rw [if_neg hbig] at hg
            cases hg
            refine ifF (fun z => hbig (by have z := of_decide_eq_true z; rw [p18] at z; exact z)) ?_
            exact fin c _ rfl (q _ Fz H1 st1 ok1 (.int _))
        · have hnil : sd.1 = [] := List.length_eq_zero_iff.mp (by omega)
          rw [hnil] at hg
          simp only [List.getElem?_nil] at hg
          cases hg
          refine ifF (fun z => hn (by have := of_decide_eq_true z; omega)) ?_
          refine ⟨.int 0, rfl, 10, 18, rfl, rfl, ⟨by decide, by decide, by decide⟩, 0, _, rfl, rfl, _, rfl, ?_⟩
          refine ifF (by decide) ?_
          refine fin 0 _ rfl (q _ Fz H1 st1 (by rw [← hnil]; exact ok1) ?_)
          rw [show (0 : Int) % 2147483587 = 0 from rfl, Int.zero_add]
          exact .int _
      · cases hg
    · cases hg

structure Top (K : PySem.W.Frag) (mg : Str → Option Value) (a_table a__law_deck a__law_draw a__law_less a__law_det a__law_whole a__law_same a__law_turned_wedge a__law_cycle a_law : Addr) (e_table e__law_deck e__law_draw e__law_less e__law_det e__law_whole e__law_same e__law_turned_wedge e__law_cycle e_law : FuncData) : Prop where
  F_table : Fun K "table" "table" s_table a_table e_table
  g_table : mg "table" = some (.ref a_table)
  b_table : Binds K e_table [] []
  F__law_deck : Fun K "_law_deck" "_law_deck" s__law_deck a__law_deck e__law_deck
  g__law_deck : mg "_law_deck" = some (.ref a__law_deck)
  b__law_deck : Binds K e__law_deck ["_law_script"] []
  F__law_draw : Fun K "_law_draw" "_law_draw" s__law_draw a__law_draw e__law_draw
  g__law_draw : mg "_law_draw" = some (.ref a__law_draw)
  b__law_draw : Binds K e__law_draw ["_law_deck_here", "_law_many"] []
  F__law_less : Fun K "_law_less" "_law_less" s__law_less a__law_less e__law_less
  g__law_less : mg "_law_less" = some (.ref a__law_less)
  b__law_less : Binds K e__law_less ["_law_one", "_law_other"] []
  F__law_det : Fun K "_law_det" "_law_det" s__law_det a__law_det e__law_det
  g__law_det : mg "_law_det" = some (.ref a__law_det)
  b__law_det : Binds K e__law_det ["_law_a", "_law_b", "_law_c"] []
  F__law_whole : Fun K "_law_whole" "_law_whole" s__law_whole a__law_whole e__law_whole
  g__law_whole : mg "_law_whole" = some (.ref a__law_whole)
  b__law_whole : Binds K e__law_whole ["_law_thing"] []
  F__law_same : Fun K "_law_same" "_law_same" s__law_same a__law_same e__law_same
  g__law_same : mg "_law_same" = some (.ref a__law_same)
  b__law_same : Binds K e__law_same ["_law_found", "_law_due"] []
  F__law_turned_wedge : Fun K "_law_turned_wedge" "_law_turned_wedge" s__law_turned_wedge a__law_turned_wedge e__law_turned_wedge
  g__law_turned_wedge : mg "_law_turned_wedge" = some (.ref a__law_turned_wedge)
  b__law_turned_wedge : Binds K e__law_turned_wedge ["_law_deck_here"] []
  F__law_cycle : Fun K "_law_cycle" "_law_cycle" s__law_cycle a__law_cycle e__law_cycle
  g__law_cycle : mg "_law_cycle" = some (.ref a__law_cycle)
  b__law_cycle : Binds K e__law_cycle ["_law_wedge", "_law_kinds"] []
  F_law : Fun K "law" "law" s_law a_law e_law
  g_law : mg "law" = some (.ref a_law)
  b_law : Binds K e_law ["_law_script"] []
  z_abs : mg "abs" = none
  z_len : mg "len" = none
  z_range : mg "range" = none
  z_isinstance : mg "isinstance" = none
  z_int : mg "int" = none
  z_bool : mg "bool" = none
  z_tuple : mg "tuple" = none
  z_zip : mg "zip" = none
  z_min : mg "min" = none
  q_TABLE : ∃ v u, mg "TABLE" = some u ∧ RelV v u ∧ Rp K (fun _ => False) (fun _ => none) p_TABLE v
variable {a_table a__law_deck a__law_draw a__law_less a__law_det a__law_whole a__law_same a__law_turned_wedge a__law_cycle a_law : Addr} {e_table e__law_deck e__law_draw e__law_less e__law_det e__law_whole e__law_same e__law_turned_wedge e__law_cycle e_law : FuncData}
theorem ok_table (T : Top K mg a_table a__law_deck a__law_draw a__law_less a__law_det a__law_whole a__law_same a__law_turned_wedge a__law_cycle a_law e_table e__law_deck e__law_draw e__law_less e__law_det e__law_whole e__law_same e__law_turned_wedge e__law_cycle e_law) (k : Dk) : FnOk P w K mg base CX0 1 a_table e_table [] (spOf K k 0 d_table) := fn_term (lv := 0) T.F_table sc_table ⟨(show FnsOk P w K mg base k 0 _ from .nil), (show CstsOk K mg _ from .cons T.q_TABLE (.nil)), (show BltsOk mg _ from .nil)⟩ k_table
theorem ok__law_less (T : Top K mg a_table a__law_deck a__law_draw a__law_less a__law_det a__law_whole a__law_same a__law_turned_wedge a__law_cycle a_law e_table e__law_deck e__law_draw e__law_less e__law_det e__law_whole e__law_same e__law_turned_wedge e__law_cycle e_law) (k : Dk) : FnOk P w K mg base CX0 1 a__law_less e__law_less ["_law_one", "_law_other"] (spOf K k 2 d__law_less) := fn_term (lv := 0) T.F__law_less sc__law_less ⟨(show FnsOk P w K mg base k 0 _ from .nil), (show CstsOk K mg _ from .nil), (show BltsOk mg _ from .cons T.z_range (.nil))⟩ k__law_less
theorem ok__law_det (T : Top K mg a_table a__law_deck a__law_draw a__law_less a__law_det a__law_whole a__law_same a__law_turned_wedge a__law_cycle a_law e_table e__law_deck e__law_draw e__law_less e__law_det e__law_whole e__law_same e__law_turned_wedge e__law_cycle e_law) (k : Dk) : FnOk P w K mg base CX0 1 a__law_det e__law_det ["_law_a", "_law_b", "_law_c"] (spOf K k 3 d__law_det) := fn_term (lv := 0) T.F__law_det sc__law_det ⟨(show FnsOk P w K mg base k 0 _ from .nil), (show CstsOk K mg _ from .nil), (show BltsOk mg _ from .nil)⟩ k__law_det
theorem ok__law_whole (T : Top K mg a_table a__law_deck a__law_draw a__law_less a__law_det a__law_whole a__law_same a__law_turned_wedge a__law_cycle a_law e_table e__law_deck e__law_draw e__law_less e__law_det e__law_whole e__law_same e__law_turned_wedge e__law_cycle e_law) (k : Dk) : FnOk P w K mg base CX0 1 a__law_whole e__law_whole ["_law_thing"] (spOf K k 1 d__law_whole) := fn_term (lv := 0) T.F__law_whole sc__law_whole ⟨(show FnsOk P w K mg base k 0 _ from .nil), (show CstsOk K mg _ from .nil), (show BltsOk mg _ from .cons T.z_isinstance (.cons T.z_int (.cons T.z_bool (.nil))))⟩ k__law_whole
theorem ok__law_turned_wedge (T : Top K mg a_table a__law_deck a__law_draw a__law_less a__law_det a__law_whole a__law_same a__law_turned_wedge a__law_cycle a_law e_table e__law_deck e__law_draw e__law_less e__law_det e__law_whole e__law_same e__law_turned_wedge e__law_cycle e_law) (k : Dk) : FnOk P w K mg base CX0 2 a__law_turned_wedge e__law_turned_wedge ["_law_deck_here"] (spOf K k 1 d__law_turned_wedge) := fn_term (lv := 1) T.F__law_turned_wedge sc__law_turned_wedge ⟨(show FnsOk P w K mg base k 1 _ from .cons (FnOk.mono (ok__law_draw (lv := 0) T.F__law_draw T.z_len k) (by decide)) T.g__law_draw T.F__law_draw.kp T.b__law_draw (.cons (FnOk.mono (ok__law_less T k) (by decide)) T.g__law_less T.F__law_less.kp T.b__law_less (.cons (FnOk.mono (ok__law_det T k) (by decide)) T.g__law_det T.F__law_det.kp T.b__law_det (.nil)))), (show CstsOk K mg _ from .nil), (show BltsOk mg _ from .cons T.z_range (.nil))⟩ k__law_turned_wedge
theorem ok__law_cycle (T : Top K mg a_table a__law_deck a__law_draw a__law_less a__law_det a__law_whole a__law_same a__law_turned_wedge a__law_cycle a_law e_table e__law_deck e__law_draw e__law_less e__law_det e__law_whole e__law_same e__law_turned_wedge e__law_cycle e_law) (k : Dk) : FnOk P w K mg base CX0 2 a__law_cycle e__law_cycle ["_law_wedge", "_law_kinds"] (spOf K k 2 d__law_cycle) := fn_term (lv := 1) T.F__law_cycle sc__law_cycle ⟨(show FnsOk P w K mg base k 1 _ from .cons (FnOk.mono (ok__law_less T k) (by decide)) T.g__law_less T.F__law_less.kp T.b__law_less (.cons (FnOk.mono (ok__law_det T k) (by decide)) T.g__law_det T.F__law_det.kp T.b__law_det (.nil))), (show CstsOk K mg _ from .nil), (show BltsOk mg _ from .cons T.z_range (.cons T.z_len (.cons T.z_min (.cons T.z_tuple (.nil)))))⟩ k__law_cycle
theorem okr__law_same (T : Top K mg a_table a__law_deck a__law_draw a__law_less a__law_det a__law_whole a__law_same a__law_turned_wedge a__law_cycle a_law e_table e__law_deck e__law_draw e__law_less e__law_det e__law_whole e__law_same e__law_turned_wedge e__law_cycle e_law) (k : Dk) : ∀ n : Nat, FnOk P w K mg base CX0 (1 + n + 1) a__law_same e__law_same ["_law_found", "_law_due"] (spOf K k 2 (d__law_same n))
  | 0 => fn_none (fn_false T.F__law_same sc__law_same)
  | n + 1 => fn_term (lv := 1 + n + 1) T.F__law_same sc__law_same ⟨(show FnsOk P w K mg base k (1 + n + 1) _ from .cons (okr__law_same T k n) T.g__law_same T.F__law_same.kp T.b__law_same (.cons (FnOk.mono (ok__law_whole T k) (by omega)) T.g__law_whole T.F__law_whole.kp T.b__law_whole (.nil))), (show CstsOk K mg _ from .nil), (show BltsOk mg _ from .cons T.z_isinstance (.cons T.z_tuple (.cons T.z_len (.cons T.z_zip (.nil)))))⟩ (k__law_same _)
theorem ok__law_same (T : Top K mg a_table a__law_deck a__law_draw a__law_less a__law_det a__law_whole a__law_same a__law_turned_wedge a__law_cycle a_law e_table e__law_deck e__law_draw e__law_less e__law_det e__law_whole e__law_same e__law_turned_wedge e__law_cycle e_law) (k : Dk) : FnOk P w K mg base CX0 8 a__law_same e__law_same ["_law_found", "_law_due"] (spOf K k 2 (d__law_same 6)) := okr__law_same T k 6
theorem ok_law (T : Top K mg a_table a__law_deck a__law_draw a__law_less a__law_det a__law_whole a__law_same a__law_turned_wedge a__law_cycle a_law e_table e__law_deck e__law_draw e__law_less e__law_det e__law_whole e__law_same e__law_turned_wedge e__law_cycle e_law) : FnOk P w K mg base CX0 9 a_law e_law ["_law_script"] (spLaw K) := by
  refine law_ok (lv := 8) (fb := denCs G_law c_law) (O' := []) T.F_law sc_law rfl rfl rfl (.inl rfl) ?_ rfl (by decide +kernel) (by decide +kernel) (FnOk.mono (ok__law_deck (lv := 0) T.F__law_deck T.z_abs) (by decide)) T.g__law_deck T.F__law_deck.kp T.b__law_deck (fun k cdv A outer s H E hr => ?_) law_val
  · first | exact .inl rfl | exact .inr rfl
  · exact soundCs c_law ⟨rfl, sc_law.nd, rfl, sc_law.kind, fun _ _ => rfl, rfl, hr, (⟨(show FnsOk P w K mg base k 8 _ from .cons (FnOk.mono (ok__law_turned_wedge T k) (by decide)) T.g__law_turned_wedge T.F__law_turned_wedge.kp T.b__law_turned_wedge (.cons (FnOk.mono (ok__law_cycle T k) (by decide)) T.g__law_cycle T.F__law_cycle.kp T.b__law_cycle (.cons (FnOk.mono (ok__law_same T k) (by decide)) T.g__law_same T.F__law_same.kp T.b__law_same (.cons (FnOk.mono (ok_table T k) (by decide)) T.g_table T.F_table.kp T.b_table (.nil))))), (show CstsOk K mg _ from .nil), (show BltsOk mg _ from .cons T.z_range (.cons T.z_tuple (.nil)))⟩ : TOk P w K mg base k 8 G_law).fns, (⟨(show FnsOk P w K mg base k 8 _ from .cons (FnOk.mono (ok__law_turned_wedge T k) (by decide)) T.g__law_turned_wedge T.F__law_turned_wedge.kp T.b__law_turned_wedge (.cons (FnOk.mono (ok__law_cycle T k) (by decide)) T.g__law_cycle T.F__law_cycle.kp T.b__law_cycle (.cons (FnOk.mono (ok__law_same T k) (by decide)) T.g__law_same T.F__law_same.kp T.b__law_same (.cons (FnOk.mono (ok_table T k) (by decide)) T.g_table T.F_table.kp T.b_table (.nil))))), (show CstsOk K mg _ from .nil), (show BltsOk mg _ from .cons T.z_range (.cons T.z_tuple (.nil)))⟩ : TOk P w K mg base k 8 G_law).csts, (⟨(show FnsOk P w K mg base k 8 _ from .cons (FnOk.mono (ok__law_turned_wedge T k) (by decide)) T.g__law_turned_wedge T.F__law_turned_wedge.kp T.b__law_turned_wedge (.cons (FnOk.mono (ok__law_cycle T k) (by decide)) T.g__law_cycle T.F__law_cycle.kp T.b__law_cycle (.cons (FnOk.mono (ok__law_same T k) (by decide)) T.g__law_same T.F__law_same.kp T.b__law_same (.cons (FnOk.mono (ok_table T k) (by decide)) T.g_table T.F_table.kp T.b_table (.nil))))), (show CstsOk K mg _ from .nil), (show BltsOk mg _ from .cons T.z_range (.cons T.z_tuple (.nil)))⟩ : TOk P w K mg base k 8 G_law).blts⟩ PassesOwn.never k_law
end
theorem all_mk {l : PySem.W.OpenLaw} {w : World} {K : PySem.W.Frag} {h : Heap} {mg : Str → Option Value} {fa f0 f1 f2 f3 f4 f5 f6 f7 f8 f9 : Addr} (X : K.In h) (G : h.Ns mainGlobals mg) (hfa : mg "law" = some (.ref fa))
    {od0 an0 : Option Addr} {sl0 : Array (Option Value)} {oc0 kV0 dc0 pm0 cd0 ct0 : Value}
    (x0 : PySem.W.nsIn K mainGlobals "table" = some (some (.ref f0))) (l0 : K.lookup f0 = some ⟨oc0, od0, .func (PySem.W.fnOf "table" "table" (defArgs s_table) (defBody s_table) (defScope s_table) .none kV0 dc0 pm0 an0 cd0 ct0), sl0⟩) (c0 : PySem.W.codeIn K cd0 "table" = true) (k0 : PySem.W.keepIn K (.ref f0) = true)
    {od1 an1 : Option Addr} {sl1 : Array (Option Value)} {oc1 kV1 dc1 pm1 cd1 ct1 : Value}
    (x1 : PySem.W.nsIn K mainGlobals "_law_deck" = some (some (.ref f1))) (l1 : K.lookup f1 = some ⟨oc1, od1, .func (PySem.W.fnOf "_law_deck" "_law_deck" (defArgs s__law_deck) (defBody s__law_deck) (defScope s__law_deck) .none kV1 dc1 pm1 an1 cd1 ct1), sl1⟩) (c1 : PySem.W.codeIn K cd1 "_law_deck" = true) (k1 : PySem.W.keepIn K (.ref f1) = true)
    {od2 an2 : Option Addr} {sl2 : Array (Option Value)} {oc2 kV2 dc2 pm2 cd2 ct2 : Value}
    (x2 : PySem.W.nsIn K mainGlobals "_law_draw" = some (some (.ref f2))) (l2 : K.lookup f2 = some ⟨oc2, od2, .func (PySem.W.fnOf "_law_draw" "_law_draw" (defArgs s__law_draw) (defBody s__law_draw) (defScope s__law_draw) .none kV2 dc2 pm2 an2 cd2 ct2), sl2⟩) (c2 : PySem.W.codeIn K cd2 "_law_draw" = true) (k2 : PySem.W.keepIn K (.ref f2) = true)
    {od3 an3 : Option Addr} {sl3 : Array (Option Value)} {oc3 kV3 dc3 pm3 cd3 ct3 : Value}
    (x3 : PySem.W.nsIn K mainGlobals "_law_less" = some (some (.ref f3))) (l3 : K.lookup f3 = some ⟨oc3, od3, .func (PySem.W.fnOf "_law_less" "_law_less" (defArgs s__law_less) (defBody s__law_less) (defScope s__law_less) .none kV3 dc3 pm3 an3 cd3 ct3), sl3⟩) (c3 : PySem.W.codeIn K cd3 "_law_less" = true) (k3 : PySem.W.keepIn K (.ref f3) = true)
    {od4 an4 : Option Addr} {sl4 : Array (Option Value)} {oc4 kV4 dc4 pm4 cd4 ct4 : Value}
    (x4 : PySem.W.nsIn K mainGlobals "_law_det" = some (some (.ref f4))) (l4 : K.lookup f4 = some ⟨oc4, od4, .func (PySem.W.fnOf "_law_det" "_law_det" (defArgs s__law_det) (defBody s__law_det) (defScope s__law_det) .none kV4 dc4 pm4 an4 cd4 ct4), sl4⟩) (c4 : PySem.W.codeIn K cd4 "_law_det" = true) (k4 : PySem.W.keepIn K (.ref f4) = true)
    {od5 an5 : Option Addr} {sl5 : Array (Option Value)} {oc5 kV5 dc5 pm5 cd5 ct5 : Value}
    (x5 : PySem.W.nsIn K mainGlobals "_law_whole" = some (some (.ref f5))) (l5 : K.lookup f5 = some ⟨oc5, od5, .func (PySem.W.fnOf "_law_whole" "_law_whole" (defArgs s__law_whole) (defBody s__law_whole) (defScope s__law_whole) .none kV5 dc5 pm5 an5 cd5 ct5), sl5⟩) (c5 : PySem.W.codeIn K cd5 "_law_whole" = true) (k5 : PySem.W.keepIn K (.ref f5) = true)
    {od6 an6 : Option Addr} {sl6 : Array (Option Value)} {oc6 kV6 dc6 pm6 cd6 ct6 : Value}
    (x6 : PySem.W.nsIn K mainGlobals "_law_same" = some (some (.ref f6))) (l6 : K.lookup f6 = some ⟨oc6, od6, .func (PySem.W.fnOf "_law_same" "_law_same" (defArgs s__law_same) (defBody s__law_same) (defScope s__law_same) .none kV6 dc6 pm6 an6 cd6 ct6), sl6⟩) (c6 : PySem.W.codeIn K cd6 "_law_same" = true) (k6 : PySem.W.keepIn K (.ref f6) = true)
    {od7 an7 : Option Addr} {sl7 : Array (Option Value)} {oc7 kV7 dc7 pm7 cd7 ct7 : Value}
    (x7 : PySem.W.nsIn K mainGlobals "_law_turned_wedge" = some (some (.ref f7))) (l7 : K.lookup f7 = some ⟨oc7, od7, .func (PySem.W.fnOf "_law_turned_wedge" "_law_turned_wedge" (defArgs s__law_turned_wedge) (defBody s__law_turned_wedge) (defScope s__law_turned_wedge) .none kV7 dc7 pm7 an7 cd7 ct7), sl7⟩) (c7 : PySem.W.codeIn K cd7 "_law_turned_wedge" = true) (k7 : PySem.W.keepIn K (.ref f7) = true)
    {od8 an8 : Option Addr} {sl8 : Array (Option Value)} {oc8 kV8 dc8 pm8 cd8 ct8 : Value}
    (x8 : PySem.W.nsIn K mainGlobals "_law_cycle" = some (some (.ref f8))) (l8 : K.lookup f8 = some ⟨oc8, od8, .func (PySem.W.fnOf "_law_cycle" "_law_cycle" (defArgs s__law_cycle) (defBody s__law_cycle) (defScope s__law_cycle) .none kV8 dc8 pm8 an8 cd8 ct8), sl8⟩) (c8 : PySem.W.codeIn K cd8 "_law_cycle" = true) (k8 : PySem.W.keepIn K (.ref f8) = true)
    {od9 an9 : Option Addr} {sl9 : Array (Option Value)} {oc9 kV9 dc9 pm9 cd9 ct9 : Value}
    (x9 : PySem.W.nsIn K mainGlobals "law" = some (some (.ref f9))) (l9 : K.lookup f9 = some ⟨oc9, od9, .func (PySem.W.fnOf "law" "law" (defArgs s_law) (defBody s_law) (defScope s_law) .none kV9 dc9 pm9 an9 cd9 ct9), sl9⟩) (c9 : PySem.W.codeIn K cd9 "law" = true) (k9 : PySem.W.keepIn K (.ref f9) = true)
    (z0 : PySem.W.nsIn K mainGlobals "abs" = some none)
    (z1 : PySem.W.nsIn K mainGlobals "len" = some none)
    (z2 : PySem.W.nsIn K mainGlobals "range" = some none)
    (z3 : PySem.W.nsIn K mainGlobals "isinstance" = some none)
    (z4 : PySem.W.nsIn K mainGlobals "int" = some none)
    (z5 : PySem.W.nsIn K mainGlobals "bool" = some none)
    (z6 : PySem.W.nsIn K mainGlobals "tuple" = some none)
    (z7 : PySem.W.nsIn K mainGlobals "zip" = some none)
    (z8 : PySem.W.nsIn K mainGlobals "min" = some none)
    {u0 : Value} (y0 : PySem.W.nsIn K mainGlobals "TABLE" = some (some u0)) (r0 : readB K p_TABLE u0 = true)
    : ∃ fd : FuncData, (∀ (s : Shared) (v : Value), BindsTo s fd ⟨[v], []⟩ [("_law_script", v)]) ∧ ∀ base : Heap, K.In base → base.Ns mainGlobals mg → FnOk l.prog w K mg base CX0 9 fa fd ["_law_script"] (spLaw K) := by
  have e := hfa.symm.trans (PySem.W.mg_of X G x9)
  cases e
  have F0 := fun_mk (st := s_table) l0 c0 k0
  have b0 := F0.binds (ps := []) fun _ _ _ _ _ _ us hl => match us, hl with | [], _ => rfl
  have F1 := fun_mk (st := s__law_deck) l1 c1 k1
  have b1 := F1.binds (ps := ["_law_script"]) fun _ _ _ _ _ _ us hl => match us, hl with | [_], _ => rfl
  have F2 := fun_mk (st := s__law_draw) l2 c2 k2
  have b2 := F2.binds (ps := ["_law_deck_here", "_law_many"]) fun _ _ _ _ _ _ us hl => match us, hl with | [_, _], _ => rfl
  have F3 := fun_mk (st := s__law_less) l3 c3 k3
  have b3 := F3.binds (ps := ["_law_one", "_law_other"]) fun _ _ _ _ _ _ us hl => match us, hl with | [_, _], _ => rfl
  have F4 := fun_mk (st := s__law_det) l4 c4 k4
  have b4 := F4.binds (ps := ["_law_a", "_law_b", "_law_c"]) fun _ _ _ _ _ _ us hl => match us, hl with | [_, _, _], _ => rfl
  have F5 := fun_mk (st := s__law_whole) l5 c5 k5
  have b5 := F5.binds (ps := ["_law_thing"]) fun _ _ _ _ _ _ us hl => match us, hl with | [_], _ => rfl
  have F6 := fun_mk (st := s__law_same) l6 c6 k6
  have b6 := F6.binds (ps := ["_law_found", "_law_due"]) fun _ _ _ _ _ _ us hl => match us, hl with | [_, _], _ => rfl
  have F7 := fun_mk (st := s__law_turned_wedge) l7 c7 k7
  have b7 := F7.binds (ps := ["_law_deck_here"]) fun _ _ _ _ _ _ us hl => match us, hl with | [_], _ => rfl
  have F8 := fun_mk (st := s__law_cycle) l8 c8 k8
  have b8 := F8.binds (ps := ["_law_wedge", "_law_kinds"]) fun _ _ _ _ _ _ us hl => match us, hl with | [_, _], _ => rfl
  have F9 := fun_mk (st := s_law) l9 c9 k9
  have b9 := F9.binds (ps := ["_law_script"]) fun _ _ _ _ _ _ us hl => match us, hl with | [_], _ => rfl
  exact ⟨PySem.W.fnOf "law" "law" (defArgs s_law) (defBody s_law) (defScope s_law) .none kV9 dc9 pm9 an9 cd9 ct9, fun s v => .of_eq rfl, fun base _ _ => ok_law ⟨F0, PySem.W.mg_of X G x0, b0, F1, PySem.W.mg_of X G x1, b1, F2, PySem.W.mg_of X G x2, b2, F3, PySem.W.mg_of X G x3, b3, F4, PySem.W.mg_of X G x4, b4, F5, PySem.W.mg_of X G x5, b5, F6, PySem.W.mg_of X G x6, b6, F7, PySem.W.mg_of X G x7, b7, F8, PySem.W.mg_of X G x8, b8, F9, PySem.W.mg_of X G x9, b9, PySem.W.mg_none_of X G z0, PySem.W.mg_none_of X G z1, PySem.W.mg_none_of X G z2, PySem.W.mg_none_of X G z3, PySem.W.mg_none_of X G z4, PySem.W.mg_none_of X G z5, PySem.W.mg_none_of X G z6, PySem.W.mg_none_of X G z7, PySem.W.mg_none_of X G z8, cst_ok (PySem.W.mg_of X G y0) r0⟩⟩
end Lw
open PySem PySem.W PyProof.Rows
set_option maxHeartbeats 0 in
theorem PySem.Challenge.cw_levelskins_k23_table_of_sixteen_holds : PySem.Challenge.rw_levelskins_k23_table_of_sixteen.Holds := by
  w_on; o_law; k_head; (case hw => w_witness2)
  k_fill
  refine L2.walk_of (l := PySem.Challenge.rw_levelskins_k23_table_of_sixteen) (n := 63) (k := 9) (x := "_law_script") (CX := fun _ => L2.CX0) (sp := fun w => Rf.spLaw _) rfl (by decide) rfl ⟨rfl, by decide, by decide⟩ (fun w h Y => PySem.W.kIn_of Y) ?F (fun _ _ a ns hl _ hS => ⟨a, ns, rfl, hS, hl, fun _ => rfl⟩) (fun _ _ _ _ _ h => h)
  case F =>
    intro w mg fa h KX G hmg
    refine' Lw.all_mk KX G hmg ?x0 ?l0 ?c0 ?k0 ?x1 ?l1 ?c1 ?k1 ?x2 ?l2 ?c2 ?k2 ?x3 ?l3 ?c3 ?k3 ?x4 ?l4 ?c4 ?k4 ?x5 ?l5 ?c5 ?k5 ?x6 ?l6 ?c6 ?k6 ?x7 ?l7 ?c7 ?k7 ?x8 ?l8 ?c8 ?k8 ?x9 ?l9 ?c9 ?k9 ?z0 ?z1 ?z2 ?z3 ?z4 ?z5 ?z6 ?z7 ?z8 ?y0 ?r0
    (case x0 => k_is)
    (case l0 => k_is)
    (case c0 => k_is)
    (case k0 => k_is)
    (case x1 => k_is)
    (case l1 => k_is)
    (case c1 => k_is)
    (case k1 => k_is)
    (case x2 => k_is)
    (case l2 => k_is)
    (case c2 => k_is)
    (case k2 => k_is)
    (case x3 => k_is)
    (case l3 => k_is)
    (case c3 => k_is)
    (case k3 => k_is)
    (case x4 => k_is)
    (case l4 => k_is)
    (case c4 => k_is)
    (case k4 => k_is)
    (case x5 => k_is)
    (case l5 => k_is)
    (case c5 => k_is)
    (case k5 => k_is)
    (case x6 => k_is)
    (case l6 => k_is)
    (case c6 => k_is)
    (case k6 => k_is)
    (case x7 => k_is)
    (case l7 => k_is)
    (case c7 => k_is)
    (case k7 => k_is)
    (case x8 => k_is)
    (case l8 => k_is)
    (case c8 => k_is)
    (case k8 => k_is)
    (case x9 => k_is)
    (case l9 => k_is)
    (case c9 => k_is)
    (case k9 => k_is)
    (case z0 => k_is)
    (case z1 => k_is)
    (case z2 => k_is)
    (case z3 => k_is)
    (case z4 => k_is)
    (case z5 => k_is)
    (case z6 => k_is)
    (case z7 => k_is)
    (case z8 => k_is)
    (case y0 => k_is)
    (case r0 => kernel_rfl)
