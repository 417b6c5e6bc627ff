import PyProof.Rows.All
import Wide.All
import OpenK.AllK
import Wide.FinOn
import Lean
import PyProof.EqAt
import PyProof.EqKinds
import PyProof.TupleCall
import PyProof.P3Eq
import PyProof.NeData
import PyProof.FitsBits
import PyProof.ZipIter
import PyProof.TupleIter
import KE.KRevIter
import PyProof.TupleOfGen
import PyProof.ListRange
import KE.KIsAll
import PyProof.ExcArgsOwn
import OpenK.KDescr
import PyProof.StationsW
import PyProof.ExcBaseAll.ValueError
import OpenK.KOwn
import PyProof.RulesAs
import PyProof.RulesDel
import PyProof.Rows.SortWalk
import PyProof.CompUse
import KE.KDictSum
import PyProof.WalkInts
import KE.KSortTup
import PyProof.Rows.TupDisplay
import PySem.Challenge.RW_pebbletoll_k50_fractions_reckoned
set_option Elab.async false
set_option linter.all false
set_option maxRecDepth 100000
namespace L2
open PySem PySem.Spec PyProof.Rows
abbrev Key := Sum Int Str
def keyIs : Key → Value → Bool
  | .inl k, v => Value.isInt k v
  | .inr x, v => Value.isStrOf x v
def keyH (w : World) : Key → Int
  | .inl k => hashInt k
  | .inr x => hashStr w x
theorem keyIs_shape : ∀ {k : Key} {v : Value}, keyIs k v = true → (∃ i t, k = Sum.inl i ∧ v = Value.int i t) ∨ (∃ x t, k = Sum.inr x ∧ v = Value.str x t)
  | .inl i, v, h => by
    obtain ⟨t, e⟩ := Value.isInt_shape (k := i) (v := v) h
    exact .inl ⟨i, t, rfl, e⟩
  | .inr x, v, h => by
    obtain ⟨t, e⟩ := Value.isStrOf_shape (x := x) (v := v) h
    exact .inr ⟨x, t, rfl, e⟩
theorem key_ll (a b : Int) : decide ((Sum.inl a : Key) = Sum.inl b) = (a == b) := by
  by_cases e : a = b
  · subst e; simp
  · have h : ¬ (Sum.inl a : Key) = Sum.inl b := fun q => e (Sum.inl.inj q)
    rw [decide_eq_false h]
    exact (beq_eq_false_iff_ne.mpr e).symm
theorem key_rr (a b : Str) : decide ((Sum.inr a : Key) = Sum.inr b) = decide (a = b) := by
  by_cases e : a = b
  · subst e; simp
  · have h : ¬ (Sum.inr a : Key) = Sum.inr b := fun q => e (Sum.inr.inj q)
    rw [decide_eq_false h, decide_eq_false e]
theorem key_lr (a : Int) (b : Str) : decide ((Sum.inl a : Key) = Sum.inr b) = false := decide_eq_false (fun q => nomatch q)
theorem key_rl (a : Str) (b : Int) : decide ((Sum.inr a : Key) = Sum.inl b) = false := decide_eq_false (fun q => nomatch q)
def mixKind (prog : Program) (w : World) : PySem.KeyKind prog w Key where
  is := keyIs
  hash := keyH w
  inj := fun v a b ha hb => by
    rcases keyIs_shape ha with ⟨i, t, rfl, rfl⟩ | ⟨x, t, rfl, rfl⟩
    · rcases keyIs_shape hb with ⟨j, u, rfl, e⟩ | ⟨y, u, rfl, e⟩
      · injection e with e1 _; rw [e1]
      · exact nomatch e
    · rcases keyIs_shape hb with ⟨j, u, rfl, e⟩ | ⟨y, u, rfl, e⟩
      · exact nomatch e
      · injection e with e1 _; rw [e1]
  byValue := fun k v h => by
    rcases keyIs_shape h with ⟨i, t, rfl, rfl⟩ | ⟨x, t, rfl, rfl⟩ <;> rfl
  pyHash := fun hv h => by
    rcases keyIs_shape hv with ⟨i, t, rfl, rfl⟩ | ⟨x, t, rfl, rfl⟩
    · exact wpAny_pyHash_int h
    · exact wpAny_pyHash_str h
  eqBool := fun hu hv h => by
    rcases keyIs_shape hu with ⟨i, t, rfl, rfl⟩ | ⟨x, t, rfl, rfl⟩
    · rcases keyIs_shape hv with ⟨j, u, rfl, rfl⟩ | ⟨y, u, rfl, rfl⟩
      · rw [key_ll] at h; exact wpAny_eqBool_int h
      · rw [key_lr] at h; exact SeqAt.EqAt.int_str i t y u _ _ _ _ h
    · rcases keyIs_shape hv with ⟨j, u, rfl, rfl⟩ | ⟨y, u, rfl, rfl⟩
      · rw [key_rl] at h; exact SeqAt.EqAt.str_int x t j u _ _ _ _ h
      · rw [key_rr] at h; exact wpAny_eqBool_str h
  «strs» := fun k x t v h => by
    rcases keyIs_shape h with ⟨i, u, rfl, e⟩ | ⟨y, u, rfl, e⟩
    · exact nomatch e
    · injection e with e1 _
      subst e1
      cases v <;> rfl
end L2
namespace L2
open PySem PySem.Spec PyProof.Rows
inductive V where
  | non | bl (b : Bool) | int (i : Int) | str (x : Str) | byt (b : Array UInt8) | flt (b : UInt64) | ref (a : Addr) | ty (n : String)
  deriving DecidableEq
def RelV : V → Value → Prop
  | .non, u => u = Value.none
  | .bl b, u => u = Value.bool b
  | .int i, u => ∃ t, u = Value.int i t
  | .str x, u => ∃ t, u = Value.str x t
  | .byt b, u => ∃ t, u = Value.bytes b t
  | .flt b, u => ∃ t, u = Value.float b t
  | .ref a, u => u = Value.ref a
  | .ty n, u => u = Value.type n
abbrev Vals : List V → List Value → Prop := Paired RelV
theorem Vals.length {xs : List V} {us : List Value} (r : Vals xs us) : xs.length = us.length := Paired.length r
theorem Vals.get : ∀ {xs : List V} {us : List Value} {i : Nat} {x : V}, Vals xs us → xs[i]? = some x → ∃ u, us[i]? = some u ∧ RelV x u
  | _, _, _, _, .nil, e => by simp at e
  | _, _, 0, _, .cons r _, e => by simp at e; subst e; exact ⟨_, rfl, r⟩
  | _, _, i + 1, x, .cons _ t, e => by
    obtain ⟨u, h1, h2⟩ := Vals.get (i := i) (x := x) t (by simpa using e)
    exact ⟨u, by simpa using h1, h2⟩
theorem Vals.set {x : V} {u : Value} (r : RelV x u) : ∀ {xs : List V} {us : List Value} (i : Nat), Vals xs us → Vals (xs.set i x) (us.set i u)
  | _, _, _, .nil => .nil
  | _, _, 0, .cons _ t => .cons r t
  | _, _, i + 1, .cons q t => .cons q (Vals.set r i t)
theorem Vals.append : ∀ {xs ys : List V} {us ws : List Value}, Vals xs us → Vals ys ws → Vals (xs ++ ys) (us ++ ws)
  | _, _, _, _, .nil, s => s
  | _, _, _, _, .cons r t, s => .cons r (Vals.append t s)
theorem Vals.take : ∀ {xs : List V} {us : List Value} (n : Nat), Vals xs us → Vals (xs.take n) (us.take n)
  | _, _, 0, _ => .nil
  | _, _, _ + 1, .nil => .nil
  | _, _, n + 1, .cons r t => .cons r (Vals.take n t)
theorem Vals.drop : ∀ {xs : List V} {us : List Value} (n : Nat), Vals xs us → Vals (xs.drop n) (us.drop n)
  | _, _, 0, r => r
  | _, _, _ + 1, .nil => .nil
  | _, _, n + 1, .cons _ t => Vals.drop n t
def RelO : Option V → Option Value → Prop
  | some v, some u => RelV v u
  | none, none => True
  | _, _ => False
def KV {κ : Type} : List (κ × V) → List (κ × Value) → Prop := Paired fun (p : κ × V) (q : κ × Value) => p.1 = q.1 ∧ RelV p.2 q.2
def kV : Key → V
  | .inl i => .int i
  | .inr x => .str x
inductive HO where
  /-- a list -/
  | lst (xs : List V)
  /-- a tuple (never changes) -/
  | tup (xs : List V)
  /-- a dict whose keys are ints and texts; one whose keys are tuples of ints and texts (the empty one is both) -/
  | dK (kvs : List (Key × V)) | dT (kvs : List (List Key × V))
  /-- a set of ints: its members, its size -/
  | set (S : Int → Bool) (n : Nat)
  /-- an instance of the class at C, its dict at dx, its attributes -/
  | ins (C dx : Addr) (fs : List (Str × V))
  /-- the dict of the instance at x -/
  | own (x : Addr)
  /-- the dict of an exception -/
  | xd (fs : List (Str × V))
  /-- a bound method, f of x -/
  | met (f x : Addr)
  /-- a range object lo, lo + 1, .. below hi -/
  | rng (lo hi : Int)
  /-- a thing that is known to the object (the script; a dict while a loop walks it): read, never written while it is so -/
  | frz (o : Obj) (u : HO)
  /-- a code object's table -/
  | tbl (ps : Array Value)
  /-- any other thing, by what is true of its one object (a def of one's own: SetO a S n := HO.ext fun h => ..) -/
  | ext (φ : Heap → Prop)
abbrev Hp := Addr → Option HO
def upd (H : Hp) (a : Addr) (o : HO) : Hp := fun b => if b = a then some o else H b
theorem upd_same {H : Hp} {a : Addr} {o : HO} : upd H a o a = some o := by unfold upd; rw [if_pos rfl]
theorem upd_ne {H : Hp} {a b : Addr} {o : HO} (h : b ≠ a) : upd H a o b = H b := by unfold upd; rw [if_neg h]
theorem upd_upd {H : Hp} {a : Addr} {o u : HO} : upd (upd H a o) a u = upd H a u := by
  funext b; unfold upd; split <;> rfl
theorem ne_of {H : Hp} {a b : Addr} {o u : HO} (h : H a = some o) (h' : H b = some u) (d : o ≠ u) : a ≠ b := by
  intro e; subst e; rw [h] at h'; exact d (Option.some.inj h')
theorem ne_of_none {H : Hp} {a b : Addr} {o : HO} (h : H a = some o) (h' : H b = none) : a ≠ b := by
  intro e; subst e; rw [h] at h'; cases h'
section
variable (P : Program) (w : World)
def ObjOk (H : Hp) (h : Heap) (a : Addr) : HO → Prop
  | .lst xs => xs.length ≤ sizeLine ∧ ∃ (its : List Value) (n : Nat), Vals xs its ∧ h.get? a = some { cls := .type "list", data := .seq its.toArray n }
  | .tup xs => xs.length ≤ sizeLine ∧ ∃ its : List Value, Vals xs its ∧ IsTup h a its.toArray
  | .dK kvs => kvs.length ≤ sizeLine ∧ (a == sysModules) = false ∧ ∃ vs, KV kvs vs ∧ h.DictOf (mixKind P w) a vs
  | .dT kvs => kvs.length ≤ sizeLine ∧ (a == sysModules) = false ∧ ∃ xs : List (List Key × Addr × Value),
      Paired (fun (p : List Key × V) (q : List Key × Addr × Value) => p.1 = q.1 ∧ H q.2.1 = some (.tup (p.1.map kV)) ∧ RelV p.2 q.2.2) kvs xs ∧
      ∃ o es ep, h.get? a = some o ∧ o.ExactDict ∧ o.data = .dict es ep ∧ es.toList = xs.map (entryOfKey (tupleKind (mixKind P w))) ∧ (xs.map (·.1)).Nodup
  | .set S n => h.SetOf (intKind P w) a S n
  | .ins C dx fs => H dx = some (.own a) ∧ fs.length ≤ 1000 ∧ dx ≠ a ∧ h.get? a = some (PySem.W.instObj C dx) ∧
      ∃ mA, h.Ns1 dx mA ∧ (∀ f, RelO (fs.lookup f) (mA f)) ∧ PySem.Within mA (fs.map (·.1))
  | .own _ => ∃ o, h.get? a = some o
  | .xd fs => ∃ mA, h.Ns1 a mA ∧ ∀ f, RelO (fs.lookup f) (mA f)
  | .rng lo hi => ∃ t u v, h.get? a = some { cls := .type "range", data := .fields #[.int lo t, .int hi u, .int 1 v] }
  | .frz o u => h.get? a = some o ∧ ObjOk H h a u
  | .tbl ps => h.get? a = some { cls := .none, data := .fields ps }
  | .met f x => h.get? a = some (PySem.W.methodObj (.ref f) (.ref x))
  | .ext φ => φ h ∧ (∃ o, h.get? a = some o) ∧ ∀ h1 h2 : Heap, φ h1 → (∀ o, h1.get? a = some o → h2.get? a = some o) → φ h2
def HOk (H : Hp) (h : Heap) : Prop := ∀ a o, H a = some o → ObjOk P w H h a o
end
section
variable {P : Program} {w : World} {H H' : Hp} {h h' : Heap} {a : Addr} {o : HO}
theorem ObjOk.lt (x : ObjOk P w H h a o) : a < h.objs.size := by
  cases o with
  | lst xs => obtain ⟨_, _, _, _, e⟩ := x; exact Heap.lt_size e
  | tup xs => obtain ⟨_, _, _, p⟩ := x; exact p.lt
  | dK kvs => obtain ⟨_, _, _, _, o, _, _, e, _⟩ := x; exact Heap.lt_size e
  | dT kvs => obtain ⟨_, _, _, _, o, _, _, e, _⟩ := x; exact Heap.lt_size e
  | set S n => obtain ⟨o, _, _, _, e, _⟩ := x; exact Heap.lt_size e
  | ins C dx fs => obtain ⟨_, _, _, e, _⟩ := x; exact Heap.lt_size e
  | own y => obtain ⟨_, e⟩ := x; exact Heap.lt_size e
  | xd fs => obtain ⟨_, ⟨_, _, _, e, _⟩, _⟩ := x; exact Heap.lt_size e
  | rng lo hi => obtain ⟨_, _, _, e⟩ := x; exact Heap.lt_size e
  | frz ob u => obtain ⟨e, _⟩ := x; exact Heap.lt_size e
  | tbl ps => exact Heap.lt_size (show h.get? a = some _ from x)
  | met f y => exact Heap.lt_size (show h.get? a = some _ from x)
  | ext φ => obtain ⟨_, ⟨_, e⟩, _⟩ := x; exact Heap.lt_size e
theorem Paired.mapP {α β : Type} {F G : α → β → Prop} : ∀ {l₁ : List α} {l₂ : List β}, Paired F l₁ l₂ → (∀ a b, F a b → G a b) → Paired G l₁ l₂
  | _, _, .nil, _ => .nil
  | _, _, .cons r t, f => .cons (f _ _ r) (Paired.mapP t f)
theorem Paired.imp' {α β : Type} {F G : α → β → Prop} (f : ∀ a b, F a b → G a b) {l₁ : List α} {l₂ : List β} (r : Paired F l₁ l₂) : Paired G l₁ l₂ := Paired.mapP r f
theorem ObjOk.stay (x : ObjOk P w H h a o) (k : ∀ b u, (b = a ∨ H b = some (.own a)) → h.get? b = some u → h'.get? b = some u)
    (ho : ∀ b, H b = some (.own a) → H' b = some (.own a)) (ht : ∀ b xs, H b = some (.tup xs) → H' b = some (.tup xs)) : ObjOk P w H' h' a o := by
  induction o with
  | lst xs => obtain ⟨z, its, n, r, e⟩ := x; exact ⟨z, its, n, r, k _ _ (.inl rfl) e⟩
  | tup xs => obtain ⟨z, its, r, ob, e, c⟩ := x; exact ⟨z, its, r, ob, k _ _ (.inl rfl) e, c⟩
  | dK kvs => obtain ⟨z, y, vs, r, ob, es, ep, e, c⟩ := x; exact ⟨z, y, vs, r, ob, es, ep, k _ _ (.inl rfl) e, c⟩
  | dT kvs =>
    obtain ⟨z, y, xs, r, ob, es, ep, e, c⟩ := x
    exact ⟨z, y, xs, Paired.mapP r fun p q z => ⟨z.1, ht _ _ z.2.1, z.2.2⟩, ob, es, ep, k _ _ (.inl rfl) e, c⟩
  | set S n => obtain ⟨ob, es, ep, t, e, c⟩ := x; exact ⟨ob, es, ep, t, k _ _ (.inl rfl) e, c⟩
  | ins C dx fs =>
    obtain ⟨d, z, ne, e, mA, ⟨od, es, ep, e2, c⟩, r⟩ := x
    exact ⟨ho _ d, z, ne, k _ _ (.inl rfl) e, mA, ⟨od, es, ep, k _ _ (.inr d) e2, c⟩, r⟩
  | own y => obtain ⟨ob, e⟩ := x; exact ⟨ob, k _ _ (.inl rfl) e⟩
  | xd fs => obtain ⟨mA, ⟨od, es, ep, e, c⟩, r⟩ := x; exact ⟨mA, ⟨od, es, ep, k _ _ (.inl rfl) e, c⟩, r⟩
  | rng lo hi => obtain ⟨t, u, v, e⟩ := x; exact ⟨t, u, v, k _ _ (.inl rfl) e⟩
  | frz ob u ih => obtain ⟨e, q⟩ := x; exact ⟨k _ _ (.inl rfl) e, ih q⟩
  | tbl ps =>
    have e : h.get? a = some { cls := .none, data := .fields ps } := x
    show h'.get? a = some { cls := .none, data := .fields ps }
    exact k a _ (.inl rfl) e
  | met f y =>
    have e : h.get? a = some (PySem.W.methodObj (.ref f) (.ref y)) := x
    show h'.get? a = some (PySem.W.methodObj (.ref f) (.ref y))
    exact k a _ (.inl rfl) e
  | ext φ => obtain ⟨p, ⟨o, e⟩, st⟩ := x; exact ⟨st _ _ p fun o q => k _ _ (.inl rfl) q, ⟨o, k _ _ (.inl rfl) e⟩, st⟩
theorem HOk.lt (x : HOk P w H h) (e : H a = some o) : a < h.objs.size := (x a o e).lt
theorem HOk.fresh (x : HOk P w H h) (e : h.objs.size ≤ a) : H a = none := by
  cases q : H a with
  | none => rfl
  | some u => exact absurd (Nat.lt_of_lt_of_le (x.lt q) e) (Nat.lt_irrefl _)
theorem HOk.kept (x : HOk P w H h) (k : ∀ b u, h.get? b = some u → h'.get? b = some u) : HOk P w H h' := fun a o e =>
  (x a o e).stay (fun b u _ q => k b u q) (fun _ q => q) fun _ _ q => q
theorem HOk.laid (x : HOk P w H h) (k : ∀ b u, h.get? b = some u → h'.get? b = some u) (hp : h.objs.size ≤ a) (new : ObjOk P w (upd H a o) h' a o) : HOk P w (upd H a o) h' := fun b u e => by
  have hn := x.fresh hp
  by_cases hb : b = a
  · subst hb; rw [upd_same] at e; cases e; exact new
  · rw [upd_ne hb] at e
    exact (x b u e).stay (fun c v _ q => k c v q) (fun c q => by rw [upd_ne (ne_of_none q hn)]; exact q) fun c xs q => by rw [upd_ne (ne_of_none q hn)]; exact q
end
def Rd (H : Hp) (a : Addr) (u : HO) : Prop := H a = some u ∨ ∃ o, H a = some (.frz o u)
theorem Rd.ok {P : Program} {w : World} {H : Hp} {h : Heap} {a : Addr} {u : HO} (r : Rd H a u) (x : HOk P w H h) : ObjOk P w H h a u := by
  rcases r with r | ⟨o, r⟩
  · exact x a u r
  · obtain ⟨_, q⟩ := x a _ r
    exact q
def Mut : Option HO → Prop
  | some (.lst _) => True
  | some (.dK _) => True
  | some (.dT _) => True
  | some (.set _ _) => True
  | some (.ins _ _ _) => True
  | some (.ext _) => True
  | _ => False
section
variable {P : Program} {w : World} {H : Hp} {h h' : Heap} {x e : Addr} {o' : HO}
theorem HOk.write (ok : HOk P w H h) (mu : Mut (H x)) (he : e = x ∨ H e = some (.own x)) (k : ∀ b u, b ≠ e → h.get? b = some u → h'.get? b = some u) (heo : ∃ u, h'.get? e = some u)
    (new : ObjOk P w (upd H x o') h' x o') : HOk P w (upd H x o') h' := fun b u q => by
  have nown : ∀ c y, H c = some (.own y) → c ≠ x := fun c y r z => by subst z; rw [r] at mu; exact mu
  have ntup : ∀ c xs, H c = some (.tup xs) → c ≠ x := fun c xs r z => by subst z; rw [r] at mu; exact mu
  by_cases hb : b = x
  · subst hb; rw [upd_same] at q; cases q; exact new
  · rw [upd_ne hb] at q
    by_cases hbe : b = e
    · have q' : H b = some (.own x) := by
        rcases he with z | z
        · exact absurd (hbe.trans z) hb
        · rw [hbe]; exact z
      rw [q] at q'; cases q'
      obtain ⟨v, hv⟩ := heo
      exact ⟨v, by rw [hbe]; exact hv⟩
    · refine (ok b u q).stay (fun c v hc r => k c v ?_ r) (fun c r => by rw [upd_ne (nown c b r)]; exact r) fun c xs r => by rw [upd_ne (ntup c xs r)]; exact r
      rcases hc with rfl | hc
      · exact hbe
      · rintro rfl
        rcases he with z | z
        · exact nown c b hc z
        · rw [hc] at z; cases z; exact hb rfl
end
structure Un (fs ex : List Addr) (H H' : Hp) (h h' : Heap) : Prop where
  keep : ∀ b o, h.get? b = some o → H b = none → b ∉ fs → b ∉ ex → h'.get? b = some o
  slot : ∀ b o, h.get? b = some o → H b = none → b ∈ fs → b ∉ ex → ∃ sl, h'.get? b = some { o with slots := sl }
  free : ∀ b o, h.get? b = some o → H b = none → b ∉ ex → H' b = none
  there : ∀ b o, h.get? b = some o → b ∉ ex → ∃ o', h'.get? b = some o'
  tups : ∀ b xs, H b = some (.tup xs) → H' b = some (.tup xs)
  frzs : ∀ b o u, H b = some (.frz o u) → H' b = some (.frz o u)
  tbls : ∀ b ps, H b = some (.tbl ps) → ∃ more, H' b = some (.tbl (ps ++ more))
section
variable {fs fs' ex ex' : List Addr} {H H1 H2 : Hp} {h h1 h2 h' : Heap} {a x e : Addr} {o : HO}
theorem Un.any (u : Un fs ex H H1 h h1) {b : Addr} {ob : Obj} (q : h.get? b = some ob) (n : H b = none) (hx : b ∉ ex) : ∃ sl, h1.get? b = some { ob with slots := sl } := by
  by_cases hb : b ∈ fs
  · exact u.slot b ob q n hb hx
  · exact ⟨ob.slots, u.keep b ob q n hb hx⟩
theorem Un.kept (k : ∀ b u, h.get? b = some u → h'.get? b = some u) : Un fs ex H H h h' :=
  ⟨fun b ob q _ _ _ => k b ob q, fun b ob q _ _ _ => ⟨ob.slots, k b ob q⟩, fun _ _ _ n _ => n, fun b ob q _ => ⟨ob, k b ob q⟩, fun _ _ q => q, fun _ _ _ q => q, fun _ ps q => ⟨#[], by rw [q]; simp⟩⟩
theorem Un.refl : Un fs ex H H h h := Un.kept fun _ _ q => q
theorem Un.laid (k : ∀ b u, h.get? b = some u → h'.get? b = some u) (hp : h.objs.size ≤ a) (hn : H a = none) : Un fs ex H (upd H a o) h h' where
  keep := fun b u q _ _ _ => k b u q
  slot := fun b u q _ _ _ => ⟨u.slots, k b u q⟩
  free := fun b u q n _ => by rw [upd_ne (Nat.ne_of_lt (Nat.lt_of_lt_of_le (Heap.lt_size q) hp))]; exact n
  there := fun b u q _ => ⟨u, k b u q⟩
  tups := fun b xs q => by rw [upd_ne (ne_of_none q hn)]; exact q
  frzs := fun b u xs q => by rw [upd_ne (ne_of_none q hn)]; exact q
  tbls := fun b ps q => ⟨#[], by rw [upd_ne (ne_of_none q hn), q]; simp⟩
theorem Un.write (mu : Mut (H x)) (he : e = x ∨ H e = some (.own x)) (k : ∀ b u, b ≠ e → h.get? b = some u → h'.get? b = some u) (heo : ∃ u, h'.get? e = some u) : Un fs ex H (upd H x o) h h' := by
  have hx : ∀ b, H b = none → b ≠ x := fun b n z => by subst z; rw [n] at mu; exact mu
  have hb : ∀ b, H b = none → b ≠ e := fun b n z => by
    subst z
    rcases he with r | r
    · exact hx b n r
    · rw [n] at r; cases r
  have hm : ∀ b u, H b = some u → ¬ Mut (some u) → b ≠ x := fun b u q nm z => by subst z; rw [q] at mu; exact nm mu
  refine ⟨fun b u q n _ _ => k b u (hb b n) q, fun b u q n _ _ => ⟨u.slots, k b u (hb b n) q⟩, fun b u q n _ => by rw [upd_ne (hx b n)]; exact n, fun b u q _ => ?_,
    fun b xs q => by rw [upd_ne (hm b _ q fun z => z)]; exact q, fun b u xs q => by rw [upd_ne (hm b _ q fun z => z)]; exact q, fun b ps q => ⟨#[], by rw [upd_ne (hm b _ q fun z => z), q]; simp⟩⟩
  by_cases hbe : b = e
  · subst hbe; exact heo
  · exact ⟨u, k b u hbe q⟩
end
def trk (h : Heap) (H : Hp) : List Addr := (List.range h.objs.size).filter fun a => (H a).isSome
def hidT (h : Heap) (H : Hp) : Heap := PySem.W.hideAll h (trk h H)
theorem hidT_size (h : Heap) (H : Hp) : (hidT h H).objs.size = h.objs.size := PySem.W.hideAll_size _ _
theorem hidT_get {h : Heap} {H : Hp} {b : Addr} {o : Obj} (e : h.get? b = some o) (n : H b = none) : (hidT h H).get? b = some o :=
  PySem.W.hideAll_get _ e fun hm => by
    have q : (H b).isSome = true := (List.mem_filter.mp hm).2
    rw [n] at q; simp at q
theorem of_hidT {h : Heap} {H : Hp} {b : Addr} {o : Obj} (e : (hidT h H).get? b = some o) : h.get? b = some o ∧ H b = none := by
  have e' : h.get? b = some o := PySem.W.of_hideAll (trk h H) e
  refine ⟨e', ?_⟩
  cases q : H b with
  | none => rfl
  | some x =>
    have hm : b ∈ trk h H := List.mem_filter.mpr ⟨List.mem_range.mpr (Heap.lt_size e'), by simp [q]⟩
    have z : (hidT h H).get? b = none := PySem.W.hideAll_none (trk h H) hm
    rw [z] at e; cases e
def allNews (g h : Heap) (L : Addr) : List (Addr × Obj) := (List.range h.objs.size).filterMap fun a => if a = L ∨ (g.get? a).isSome = true then none else (h.get? a).map fun o => (a, o)
def rest (g h : Heap) (L d : Addr) : List (Addr × Obj) := (allNews g h L).filter fun p => decide (p.1 ≠ d)
end L2
namespace L2
open PySem PySem.Spec PyProof.Rows
structure Mod (K : PySem.W.Frag) (mg : Str → Option Value) (base : Heap) : Prop where
  kin : K.In base
  glob : base.Ns mainGlobals mg
  blt : ∃ mb, base.Ns builtinsNs mb ∧ ∀ x : Str, x ≠ "__name__" → mb x = bootBuiltins x
  nolimit : base.NoLimit
structure Cx where
  prog : Program
  w : World
  K : PySem.W.Frag
  mg : Str → Option Value
  base : Heap
  A : Around
  N : List Str
  s₀ : Shared
  H₀ : Hp
  env : Env
  outer : List Env
  stack : List Env
  ex : List Addr
  fn : Str → Bool
  calm : Bool
  pn : List (Addr × Obj)
  xe : Value → Shared → Prop
def frs (l : List Env) : List Addr := l.filterMap (·.frame)
abbrev Cx.fs (X : Cx) : List Addr := frs X.outer
def Vis (sc : Scope) (x : Str) : Prop := sc.names.lookup x = some .local ∨ sc.names.lookup x = some .cell ∨ sc.names.lookup x = some .free
def Loc (sc : Scope) (x : Str) : Prop := sc.names.lookup x = some .local ∨ sc.names.lookup x = some .cell
def Look (env : Env) (h : Heap) (m : Str → Option Value) (x : Str) (u : Value) : Prop :=
  (env.kindOf x = some .local ∧ m x = some u) ∨ ((env.kindOf x = some .cell ∨ env.kindOf x = some .free) ∧ ∃ c, env.cells.lookup x = some c ∧ h.IsCell c (some u))
structure Cx.Ok (X : Cx) : Prop where
  mod : Mod X.K X.mg X.base
  kind : X.env.scope.kind = .function
  glob : X.env.globals = mainGlobals
  blt : X.env.builtins = builtinsNs
  above : X.s₀.heap.objs.size ≤ X.env.locals
  inj : ∀ x y c, X.env.cells.lookup x = some c → X.env.cells.lookup y = some c → x = y
  has : ∀ x, (X.env.kindOf x = some .cell ∨ X.env.kindOf x = some .free) → ∃ c, X.env.cells.lookup x = some c
  cab : ∀ x c, X.fn x = true → X.env.cells.lookup x = some c → X.s₀.heap.objs.size ≤ c
  hd : X.calm = true → X.A.handled = none
  frames : X.A.frames = some X.stack
  stk : X.stack = X.outer ∨ (X.stack = X.env :: X.outer ∧ X.env.frame = some X.env.locals)
  exf : ∀ b ∈ X.ex, b ≠ X.env.locals ∧ ∀ x c, X.env.cells.lookup x = some c → c ≠ b
  bs : ∀ b o, X.base.get? b = some o → X.s₀.heap.get? b = some o ∧ X.H₀ b = none
  bsz : X.base.objs.size ≤ X.s₀.heap.objs.size
  noex : ∀ b o, X.base.get? b = some o → b ∉ X.ex
  exfs : ∀ b ∈ X.ex, b ∉ X.fs
  funs : X.s₀.heap.FunFrames X.base X.outer
  frf : ∀ b ∈ X.fs, X.H₀ b = none
structure Inv (X : Cx) (pins : List (Addr × Obj)) (σ : List (Option V)) (H : Hp) (s : Shared) : Prop where
  ok : X.Ok
  os : s.os = X.s₀.os
  bare : AllBare s.gens
  base : Un X.fs X.ex X.H₀ H X.s₀.heap s.heap
  loc : ∃ m, s.heap.Ns X.env.locals m ∧ ∀ (i : Nat) (x : Str) (v : V), X.N[i]? = some x → σ[i]? = some (some v) → Vis X.env.scope x → ∃ u, RelV v u ∧ Look X.env s.heap m x u
  cell : ∀ x c, X.env.cells.lookup x = some c → ∃ v, s.heap.IsCell c v
  free : H X.env.locals = none
  freeC : ∀ x c, X.env.cells.lookup x = some c → H c = none
  pin : ∀ p ∈ X.pn ++ pins, s.heap.get? p.1 = some p.2 ∧ H p.1 = none ∧ p.1 ≠ X.env.locals ∧ p.1 ∉ X.fs ∧ ∀ v, p.2.data ≠ .cell v
  hok : HOk X.prog X.w H s.heap
  len : σ.length = X.N.length
section
variable {X : Cx} {pins : List (Addr × Obj)} {σ : List (Option V)} {H H' : Hp} {s : Shared} {h' : Heap}
theorem Cx.Ok.nofr (ok : X.Ok) {b : Addr} {o : Obj} (e : X.base.get? b = some o) : b ∉ X.fs := fun hb => by
  have := (ok.funs.mem hb).1
  rw [e] at this; cases this
theorem Inv.bs (I : Inv X pins σ H s) : ∀ b o, X.base.get? b = some o → s.heap.get? b = some o ∧ H b = none := fun b o e =>
  ⟨I.base.keep b o (I.ok.bs b o e).1 (I.ok.bs b o e).2 (I.ok.nofr e) (I.ok.noex b o e), I.base.free b o (I.ok.bs b o e).1 (I.ok.bs b o e).2 (I.ok.noex b o e)⟩
theorem Inv.bk (I : Inv X pins σ H s) : ∀ b o, X.base.get? b = some o → s.heap.get? b = some o := fun b o e => (I.bs b o e).1
theorem Inv.mod (I : Inv X pins σ H s) : Mod X.K X.mg X.base := I.ok.mod
theorem Inv.kIn (I : Inv X pins σ H s) : X.K.In s.heap := I.ok.mod.kin.keeps I.bk
theorem Inv.lt (I : Inv X pins σ H s) : X.env.locals < s.heap.objs.size := let ⟨_, hn, _⟩ := I.loc; hn.lt
theorem Inv.sz (I : Inv X pins σ H s) : X.s₀.heap.objs.size ≤ s.heap.objs.size := Nat.le_trans I.ok.above (Nat.le_of_lt I.lt)
theorem Inv.nofs (I : Inv X pins σ H s) {a : Addr} (h : s.heap.objs.size ≤ a) : a ∉ X.fs := fun hb => by
  obtain ⟨_, o, ho, _⟩ := I.ok.funs.mem hb
  exact absurd (Nat.lt_of_lt_of_le (Heap.lt_size ho) (Nat.le_trans I.sz h)) (Nat.lt_irrefl _)
theorem Inv.cne (I : Inv X pins σ H s) : ∀ x c, X.env.cells.lookup x = some c → c ≠ X.env.locals := fun x c e z => by
  obtain ⟨v, o, ho, hd⟩ := I.cell x c e
  obtain ⟨m, ⟨o', es, ep, ho', hd', _⟩, _⟩ := I.loc
  rw [z, ho'] at ho; cases ho; rw [hd'] at hd; cases hd
theorem Inv.funs (I : Inv X pins σ H s) : s.heap.FunFrames X.base X.outer := by
  have all : ∀ (l : List Env), (∀ b ∈ frs l, b ∈ X.fs) → X.s₀.heap.FunFrames X.base l → s.heap.FunFrames X.base l := by
    intro l
    induction l with
    | nil => intro _ _; trivial
    | cons env r ih =>
      intro hs hl
      obtain ⟨hk, ⟨L, o, hf, hn, ho, hd⟩, hr⟩ := hl
      have hL : L ∈ X.fs := hs L (by unfold frs; rw [List.filterMap_cons, hf]; exact List.mem_cons_self)
      obtain ⟨sl, e⟩ := I.base.slot L o ho (I.ok.frf L hL) hL fun z => I.ok.exfs L z hL
      exact ⟨hk, ⟨L, _, hf, hn, e, hd⟩, ih (fun b hb => hs b (by unfold frs; rw [List.filterMap_cons, hf]; exact List.mem_cons_of_mem _ hb)) hr⟩
  exact all X.outer (fun _ hb => hb) I.ok.funs
theorem Inv.stack (I : Inv X pins σ H s) : s.heap.FunFrames X.base X.stack := by
  rcases I.ok.stk with e | ⟨e, hf⟩
  · rw [e]; exact I.funs
  · rw [e]
    obtain ⟨m, hn, _⟩ := I.loc
    refine .cons (by rw [I.ok.kind]; decide) hf hn ?_ I.funs
    exact Heap.get?_none_of_le (Nat.le_trans I.ok.bsz I.ok.above)
theorem Inv.stkSub (I : Inv X pins σ H s) : ∀ b ∈ frs X.stack, b ∈ X.env.locals :: X.fs := fun b hb => by
  rcases I.ok.stk with e | ⟨e, hf⟩
  · rw [e] at hb; exact List.mem_cons_of_mem _ hb
  · rw [e] at hb
    unfold frs at hb
    rw [List.filterMap_cons, hf] at hb
    exact hb
theorem Inv.stkFree (I : Inv X pins σ H s) : ∀ b ∈ frs X.stack, H b = none := fun b hb => by
  rcases List.mem_cons.mp (I.stkSub b hb) with e | hb
  · rw [e]; exact I.free
  · obtain ⟨_, o, ho, _⟩ := I.ok.funs.mem hb
    exact I.base.free b o ho (I.ok.frf b hb) fun z => I.ok.exfs b z hb
theorem Inv.step {g' : Array GenState} {t' : Nat} {d' : Drawn} {ch : List Addr} (I : Inv X pins σ H s)
    (hch : ∀ b ∈ ch, (b ∈ X.ex ∨ X.s₀.heap.objs.size ≤ b) ∧ b ≠ X.env.locals ∧ (∀ x c, X.env.cells.lookup x = some c → c ≠ b) ∧ ∀ p ∈ X.pn ++ pins, p.1 ≠ b)
    (keep : ∀ b o, b ≠ X.env.locals → b ∉ X.fs → b ∉ ch → s.heap.get? b = some o → H b = none → h'.get? b = some o)
    (slot : ∀ b o, b ≠ X.env.locals → b ∈ X.fs → b ∉ ch → s.heap.get? b = some o → H b = none → ∃ sl, h'.get? b = some { o with slots := sl }) (free : ∀ b o, b ∉ ch → s.heap.get? b = some o → H b = none → H' b = none)
    (there : ∀ b o, b ∉ ch → s.heap.get? b = some o → ∃ o', h'.get? b = some o')
    (tups : ∀ b xs, H b = some (.tup xs) → H' b = some (.tup xs)) (frzs : ∀ b o u, H b = some (.frz o u) → H' b = some (.frz o u)) (tbls : ∀ b ps, H b = some (.tbl ps) → ∃ more, H' b = some (.tbl (ps ++ more)))
    (ns : ∀ m, s.heap.Ns X.env.locals m → h'.Ns X.env.locals m) (hok : HOk X.prog X.w H' h') (hg : AllBare g') :
    Inv X pins σ H' { s with heap := h', gens := g', drawn := d', toks := t' } := by
  have neL : ∀ b o, X.s₀.heap.get? b = some o → b ≠ X.env.locals := fun b o e => Nat.ne_of_lt (Nat.lt_of_lt_of_le (Heap.lt_size e) I.ok.above)
  have neC : ∀ b o, X.s₀.heap.get? b = some o → b ∉ X.ex → b ∉ ch := fun b o e hx hb => by
    rcases (hch b hb).1 with z | z
    · exact hx z
    · exact absurd (Nat.lt_of_lt_of_le (Heap.lt_size e) z) (Nat.lt_irrefl _)
  have cellK : ∀ x c, X.env.cells.lookup x = some c → ∀ v, s.heap.IsCell c v → h'.IsCell c v := fun x c e v ⟨o, ho, hd⟩ => by
    have nch : c ∉ ch := fun z => (hch c z).2.2.1 x c e rfl
    by_cases hc : c ∈ X.fs
    · obtain ⟨sl, q⟩ := slot c o (I.cne x c e) hc nch ho (I.freeC x c e)
      exact ⟨_, q, hd⟩
    · exact ⟨o, keep c o (I.cne x c e) hc nch ho (I.freeC x c e), hd⟩
  refine ⟨I.ok, I.os, hg, ⟨fun b o e n hb hx => ?_, fun b o e n hb hx => ?_, fun b o e n hx => ?_, fun b o e hx => ?_, fun b xs e => tups b xs (I.base.tups b xs e), fun b o xs e => frzs b o xs (I.base.frzs b o xs e), fun b ps e => ?_⟩, ?_, fun x c e => ?_, ?_, fun x c e => ?_, fun p hp => ?_, hok, I.len⟩
  · exact keep b o (neL b o e) hb (neC b o e hx) (I.base.keep b o e n hb hx) (I.base.free b o e n hx)
  · obtain ⟨sl, e1⟩ := I.base.slot b o e n hb hx
    obtain ⟨sl', e2⟩ := slot b _ (neL b o e) hb (neC b o e hx) e1 (I.base.free b o e n hx)
    exact ⟨sl', e2⟩
  · obtain ⟨o', e1⟩ := I.base.there b o e hx
    exact free b o' (neC b o e hx) e1 (I.base.free b o e n hx)
  · obtain ⟨o', e1⟩ := I.base.there b o e hx
    exact there b o' (neC b o e hx) e1
  · obtain ⟨m1, e1⟩ := I.base.tbls b ps e
    obtain ⟨m2, e2⟩ := tbls b _ e1
    exact ⟨m1 ++ m2, by rw [e2, Array.append_assoc]⟩
  · obtain ⟨m, hn, hl⟩ := I.loc
    refine ⟨m, ns m hn, fun i x v e1 e2 e3 => ?_⟩
    obtain ⟨u, r, l⟩ := hl i x v e1 e2 e3
    refine ⟨u, r, ?_⟩
    rcases l with l | ⟨k, c, e, z⟩
    · exact .inl l
    · exact .inr ⟨k, c, e, cellK x c e _ z⟩
  · obtain ⟨v, z⟩ := I.cell x c e
    exact ⟨v, cellK x c e v z⟩
  · obtain ⟨m, ⟨o, _, _, ho, _⟩, _⟩ := I.loc
    exact free _ o (fun z => (hch _ z).2.1 rfl) ho I.free
  · obtain ⟨v, o, ho, hd⟩ := I.cell x c e
    exact free c o (fun z => (hch c z).2.2.1 x c e rfl) ho (I.freeC x c e)
  · obtain ⟨e, n, ne, nf, d⟩ := I.pin p hp
    have nch : p.1 ∉ ch := fun z => (hch p.1 z).2.2.2 p hp rfl
    exact ⟨keep p.1 p.2 ne nf nch e n, free p.1 p.2 nch e n, ne, nf, d⟩
theorem Inv.un {t' : Nat} (I : Inv X pins σ H s) (u : Un X.fs [] H H' s.heap h') (hok : HOk X.prog X.w H' h') : Inv X pins σ H' { s with heap := h', toks := t' } := by
  obtain ⟨m, ⟨o, es, ep, ho, r⟩, _⟩ := id I.loc
  obtain ⟨sl, hL⟩ := u.any ho I.free (by simp)
  exact I.step (g' := s.gens) (d' := s.drawn) (ch := []) (fun _ z => nomatch z) (fun b o _ hb _ e n => u.keep b o e n hb (by simp)) (fun b o _ hb _ e n => u.slot b o e n hb (by simp)) (fun b o _ e n => u.free b o e n (by simp)) (fun b o _ e => u.there b o e (by simp)) u.tups u.frzs u.tbls (fun m' hm => by
    obtain ⟨o', es', ep', ho', r'⟩ := hm
    rw [ho] at ho'; cases ho'
    exact ⟨_, es', ep', hL, r'⟩) hok I.bare
theorem Inv.call {g' : Array GenState} {t' : Nat} {d' : Drawn} {ch : List Addr} (I : Inv X pins σ H s) (u : Un (frs X.stack) ch H H' s.heap h') (hok : HOk X.prog X.w H' h') (hg : AllBare g')
    (hch : ∀ b ∈ ch, (b ∈ X.ex ∨ X.s₀.heap.objs.size ≤ b) ∧ b ≠ X.env.locals ∧ (∀ x c, X.env.cells.lookup x = some c → c ≠ b) ∧ ∀ p ∈ X.pn ++ pins, p.1 ≠ b) :
    Inv X pins σ H' { s with heap := h', gens := g', drawn := d', toks := t' } := by
  obtain ⟨m, ⟨o, es, ep, ho, r⟩, _⟩ := id I.loc
  obtain ⟨sl, hL⟩ := u.any ho I.free fun z => (hch _ z).2.1 rfl
  exact I.step (ch := ch) hch (fun b o hL hb hc e n => u.keep b o e n (fun z => (List.mem_cons.mp (I.stkSub b z)).elim hL hb) hc) (fun b o _ _ hc e n => u.any e n hc) (fun b o hc e n => u.free b o e n hc) (fun b o hc e => u.there b o e hc) u.tups u.frzs u.tbls (fun m' hm => by
    obtain ⟨o', es', ep', ho', r'⟩ := hm
    rw [ho] at ho'; cases ho'
    exact ⟨_, es', ep', hL, r'⟩) hok hg
theorem Inv.turned {t' : Nat} {it : Addr} (I : Inv X pins σ H s) (k : ∀ b o, b ≠ it → s.heap.get? b = some o → h'.get? b = some o) (hn : H it = none) (hL : it ≠ X.env.locals)
    (h1 : it ∈ X.ex ∨ X.s₀.heap.objs.size ≤ it) (h2 : ∀ x c, X.env.cells.lookup x = some c → c ≠ it) (h3 : ∀ p ∈ X.pn ++ pins, p.1 ≠ it) : Inv X pins σ H { s with heap := h', toks := t' } := by
  have nit : ∀ b u, H b = some u → b ≠ it := fun b u e z => by rw [z, hn] at e; cases e
  refine I.step (g' := s.gens) (d' := s.drawn) (ch := [it]) (fun b hb => ?_) (fun b o _ _ hc e _ => k b o (fun z => hc (by simp [z])) e) (fun b o _ _ hc e _ => ⟨o.slots, k b o (fun z => hc (by simp [z])) e⟩) (fun _ _ _ _ n => n)
    (fun b o hc e => ⟨o, k b o (fun z => hc (by simp [z])) e⟩) (fun _ _ e => e) (fun _ _ _ e => e) (fun b ps e => ⟨#[], by rw [e]; simp⟩) (fun m hm => ?_) (fun b u e => ?_) I.bare
  · have e : b = it := by simpa using hb
    subst e
    exact ⟨h1, hL, h2, h3⟩
  · obtain ⟨o, es, ep, ho, r⟩ := hm
    exact ⟨o, es, ep, k _ o (Ne.symm hL) ho, r⟩
  · refine (I.hok b u e).stay (fun c v hc q => k c v ?_ q) (fun _ q => q) fun _ _ q => q
    rcases hc with z | z
    · rw [z]; exact nit b u e
    · exact nit c _ z
theorem Inv.tok (I : Inv X pins σ H s) (t : Nat) : Inv X pins σ H { s with toks := t } := I.un (h' := s.heap) (t' := t) Un.refl I.hok
theorem Inv.kept {t' : Nat} (I : Inv X pins σ H s) (k : ∀ b u, s.heap.get? b = some u → h'.get? b = some u) : Inv X pins σ H { s with heap := h', toks := t' } := I.un (Un.kept k) (I.hok.kept k)
theorem Inv.laid {a : Addr} {o : HO} {t' : Nat} (I : Inv X pins σ H s) (k : ∀ b u, s.heap.get? b = some u → h'.get? b = some u) (hp : s.heap.objs.size ≤ a) (new : ObjOk X.prog X.w (upd H a o) h' a o) :
    Inv X pins σ (upd H a o) { s with heap := h', toks := t' } := I.un (Un.laid k hp (I.hok.fresh hp)) (I.hok.laid k hp new)
theorem Inv.write {x e : Addr} {o : HO} {t' : Nat} (I : Inv X pins σ H s) (mu : Mut (H x)) (he : e = x ∨ H e = some (.own x)) (k : ∀ b u, b ≠ e → s.heap.get? b = some u → h'.get? b = some u) (heo : ∃ u, h'.get? e = some u)
    (new : ObjOk X.prog X.w (upd H x o) h' x o) : Inv X pins σ (upd H x o) { s with heap := h', toks := t' } := I.un (Un.write mu he k heo) (I.hok.write mu he k heo new)
theorem Inv.pins_of {pins' : List (Addr × Obj)} (I : Inv X pins σ H s) (h : ∀ p ∈ pins', s.heap.get? p.1 = some p.2 ∧ H p.1 = none ∧ p.1 ≠ X.env.locals ∧ p.1 ∉ X.fs ∧ ∀ v, p.2.data ≠ .cell v) : Inv X pins' σ H s :=
  ⟨I.ok, I.os, I.bare, I.base, I.loc, I.cell, I.free, I.freeC, fun p hp => (List.mem_append.mp hp).elim (fun z => I.pin p (List.mem_append_left _ z)) (h p), I.hok, I.len⟩
theorem nodup_ix {N : List Str} (hN : N.Nodup) {i j : Nat} {x : Str} (a : N[i]? = some x) (b : N[j]? = some x) : i = j := by
  obtain ⟨h1, e1⟩ := List.getElem?_eq_some_iff.mp a
  obtain ⟨h2, e2⟩ := List.getElem?_eq_some_iff.mp b
  exact (List.getElem_inj hN).mp (e1.trans e2.symm)
theorem store_ok2 {M : Model} {A : Around} {E : Value → Shared → Prop} {i : Nat} {x : Str} {v : V} {u : Value} {Q : Unit → Shared → Prop} (I : Inv X pins σ H s) (hN : X.N.Nodup) (hi : X.N[i]? = some x) (hx : Loc X.env.scope x) (r : RelV v u)
    (h : ∀ s', Inv X pins (σ.set i (some v)) H s' → (∃ a, Heap.SameBut a s.heap s'.heap ∧ (a = X.env.locals ∨ X.env.cells.lookup x = some a)) → Q () s') (hf : X.fn x = true ∨ X.env.scope.names.lookup x = some .local := by first | exact .inl rfl | exact .inr rfl | assumption) : wpAny M A (storeName X.env x u) Q E s := by
  obtain ⟨m, hn, hl⟩ := id I.loc
  have hcls : (X.env.scope.kind == .class || (X.env.scope.kind == .module && X.env.locals != X.env.globals)) = false := by rw [I.ok.kind]; rfl
  have hiσ : i < σ.length := by rw [I.len]; exact (List.getElem?_eq_some_iff.mp hi).1
  have cne := I.cne
  have tracked : ∀ {a : Addr} {h' : Heap}, (∃ o, s.heap.get? a = some o ∧ H a = none) → Heap.SameBut a s.heap h' → HOk X.prog X.w H h' := fun {a h'} ha hs b ob e => by
    obtain ⟨_, _, hfree⟩ := ha
    refine (I.hok b ob e).stay (fun c w' hc q => (hs.2 c ?_).trans q) (fun _ q => q) fun _ _ q => q
    rintro rfl
    rcases hc with rfl | hc
    · rw [hfree] at e; cases e
    · rw [hfree] at hc; cases hc
  rcases hx with hk | hk
  · refine wpAny_storeName_local hk hn (fun h' hn' hs => ?_) hcls
    obtain ⟨oL, _, _, hoL, _⟩ := id hn
    refine h _ ⟨I.ok, I.os, I.bare, ⟨fun b o e n hb hx => ?_, fun b o e n hb hx => ?_, I.base.free, fun b o e hx => ?_, I.base.tups, I.base.frzs, I.base.tbls⟩, ⟨_, hn', fun j y v' e1 e2 e3 => ?_⟩, fun y c e => ?_, I.free, I.freeC, fun p hp => ?_, tracked ⟨oL, hoL, I.free⟩ hs, by simpa using I.len⟩ ⟨_, hs, .inl rfl⟩
    · exact (hs.2 b (Nat.ne_of_lt (Nat.lt_of_lt_of_le (Heap.lt_size e) I.ok.above))).trans (I.base.keep b o e n hb hx)
    · obtain ⟨sl, e1⟩ := I.base.slot b o e n hb hx
      exact ⟨sl, (hs.2 b (Nat.ne_of_lt (Nat.lt_of_lt_of_le (Heap.lt_size e) I.ok.above))).trans e1⟩
    · obtain ⟨o', e1⟩ := I.base.there b o e hx
      exact ⟨o', (hs.2 b (Nat.ne_of_lt (Nat.lt_of_lt_of_le (Heap.lt_size e) I.ok.above))).trans e1⟩
    · by_cases hj : j = i
      · subst hj
        rw [hi] at e1; cases e1
        rw [List.getElem?_set_self hiσ] at e2
        cases e2
        exact ⟨u, r, .inl ⟨hk, by simp⟩⟩
      · rw [List.getElem?_set_ne (Ne.symm hj)] at e2
        obtain ⟨u', r', q⟩ := hl j y v' e1 e2 e3
        refine ⟨u', r', ?_⟩
        rcases q with ⟨k, e⟩ | ⟨k, c, e, z⟩
        · refine .inl ⟨k, ?_⟩
          have : y ≠ x := fun e => hj (nodup_ix hN e1 (e ▸ hi))
          simp [this, e]
        · exact .inr ⟨k, c, e, z.sameBut hs (cne y c e)⟩
    · obtain ⟨w', z⟩ := I.cell y c e
      exact ⟨w', z.sameBut hs (cne y c e)⟩
    · obtain ⟨e, n, ne, nf, d⟩ := I.pin p hp
      exact ⟨(hs.2 p.1 ne).trans e, n, ne, nf, d⟩
  · have hfn : X.fn x = true := by
      rcases hf with z | z
      · exact z
      · rw [z] at hk; cases hk
    obtain ⟨c, hc⟩ := I.ok.has x (.inl hk)
    obtain ⟨w', z⟩ := I.cell x c hc
    refine wpAny_storeName_cell I.ok.kind hk hc z (fun h' hc' hs => ?_)
    obtain ⟨oc, hoc, hocd⟩ := id z
    refine h { s with heap := h' } ⟨I.ok, I.os, I.bare, ⟨fun b o e n hb hx => ?_, fun b o e n hb hx => ?_, I.base.free, fun b o e hx => ?_, I.base.tups, I.base.frzs, I.base.tbls⟩, ⟨m, hn.sameBut hs (Ne.symm (cne x c hc)), fun j y v' e1 e2 e3 => ?_⟩, fun y c' e => ?_, I.free, I.freeC, fun p hp => ?_, tracked ⟨oc, hoc, I.freeC x c hc⟩ hs, by simpa using I.len⟩ ⟨c, hs, .inr hc⟩
    · exact (hs.2 b (Nat.ne_of_lt (Nat.lt_of_lt_of_le (Heap.lt_size e) (I.ok.cab x c hfn hc)))).trans (I.base.keep b o e n hb hx)
    · obtain ⟨sl, e1⟩ := I.base.slot b o e n hb hx
      exact ⟨sl, (hs.2 b (Nat.ne_of_lt (Nat.lt_of_lt_of_le (Heap.lt_size e) (I.ok.cab x c hfn hc)))).trans e1⟩
    · obtain ⟨o', e1⟩ := I.base.there b o e hx
      exact ⟨o', (hs.2 b (Nat.ne_of_lt (Nat.lt_of_lt_of_le (Heap.lt_size e) (I.ok.cab x c hfn hc)))).trans e1⟩
    · by_cases hj : j = i
      · subst hj
        rw [hi] at e1; cases e1
        rw [List.getElem?_set_self hiσ] at e2
        cases e2
        exact ⟨u, r, .inr ⟨.inl hk, c, hc, hc'⟩⟩
      · rw [List.getElem?_set_ne (Ne.symm hj)] at e2
        obtain ⟨u', r', q⟩ := hl j y v' e1 e2 e3
        refine ⟨u', r', ?_⟩
        rcases q with q | ⟨k, c', e, z'⟩
        · exact .inl q
        · refine .inr ⟨k, c', e, z'.sameBut hs ?_⟩
          rintro rfl
          exact hj (nodup_ix hN e1 (I.ok.inj _ _ _ e hc ▸ hi))
    · by_cases hcc : c' = c
      · subst hcc; exact ⟨_, hc'⟩
      · obtain ⟨w2, z2⟩ := I.cell y c' e
        exact ⟨w2, z2.sameBut hs hcc⟩
    · obtain ⟨e, n, ne, nf, d⟩ := I.pin p hp
      refine ⟨(hs.2 p.1 ?_).trans e, n, ne, nf, d⟩
      intro q
      rw [q, hoc] at e
      have q' : oc = p.2 := Option.some.inj e
      exact d w' (by rw [← q']; exact hocd)
theorem store_ok {M : Model} {A : Around} {E : Value → Shared → Prop} {i : Nat} {x : Str} {v : V} {u : Value} {Q : Unit → Shared → Prop} (I : Inv X pins σ H s) (hN : X.N.Nodup) (hi : X.N[i]? = some x) (hx : Loc X.env.scope x) (r : RelV v u)
    (h : ∀ s', Inv X pins (σ.set i (some v)) H s' → Q () s') (hf : X.fn x = true ∨ X.env.scope.names.lookup x = some .local := by first | exact .inl rfl | exact .inr rfl | assumption) : wpAny M A (storeName X.env x u) Q E s :=
  store_ok2 I hN hi hx r (fun s' I' _ => h s' I') hf
theorem Inv.call' {s' : Shared} {ch : List Addr} (I : Inv X pins σ H s) (ho : s'.os = s.os) (u : Un (frs X.stack) ch H H' s.heap s'.heap) (hok : HOk X.prog X.w H' s'.heap) (hg : AllBare s'.gens)
    (hch : ∀ b ∈ ch, (b ∈ X.ex ∨ X.s₀.heap.objs.size ≤ b) ∧ b ≠ X.env.locals ∧ (∀ x c, X.env.cells.lookup x = some c → c ≠ b) ∧ ∀ p ∈ X.pn ++ pins, p.1 ≠ b) : Inv X pins σ H' s' := by
  obtain ⟨h', g', d', t', o'⟩ := s'
  have e : o' = s.os := ho
  subst e
  exact I.call (g' := g') (t' := t') (d' := d') u hok hg hch
end
abbrev XK := Value → Option Addr → Hp → Prop
abbrev St := List (Option V)
abbrev VK := V → Hp → Prop
abbrev TE := St → Hp → VK → Prop
abbrev TT := St → Hp → (Bool → Hp → Prop) → Prop
abbrev TA := St → Hp → (List V → Hp → Prop) → Prop
structure Ends where
  nx : St → Hp → Prop
  rt : VK
  bk : St → Hp → Prop := fun _ _ => False
  ct : St → Hp → Prop := fun _ _ => False
abbrev TS := Ends → St → Hp → Prop
def EP (X : Cx) (pins : List (Addr × Obj)) (σ : St) (Q : VK) (u : Value) (s' : Shared) : Prop := ∃ v H', Inv X pins σ H' s' ∧ RelV v u ∧ Q v H'
def TP (X : Cx) (pins : List (Addr × Obj)) (σ : St) (Q : Bool → Hp → Prop) (b : Bool) (s' : Shared) : Prop := ∃ H', Inv X pins σ H' s' ∧ Q b H'
def AP (X : Cx) (pins : List (Addr × Obj)) (σ : St) (Q : List V → Hp → Prop) (us : List Value) (s' : Shared) : Prop := ∃ vs H', Inv X pins σ H' s' ∧ Vals vs us ∧ Q vs H'
def SP (X : Cx) (pins : List (Addr × Obj)) (D : Ends) (f : Flow) (s' : Shared) : Prop :=
  match f with
  | .next => ∃ σ' H', Inv X pins σ' H' s' ∧ D.nx σ' H'
  | .brk => ∃ σ' H', Inv X pins σ' H' s' ∧ D.bk σ' H'
  | .cont => ∃ σ' H', Inv X pins σ' H' s' ∧ D.ct σ' H'
  | .ret u => ∃ v σ' H', Inv X pins σ' H' s' ∧ RelV v u ∧ D.rt v H'
def PE (X : Cx) (e : Expr) (t : TE) : Prop :=
  ∀ (pins : List (Addr × Obj)) (s : Shared) (σ : St) (H : Hp) (Q : VK), Inv X pins σ H s → t σ H Q → wpAny (model X.prog X.w) X.A (eval e X.env) (EP X pins σ Q) X.xe s
def PT (X : Cx) (e : Expr) (t : TT) : Prop :=
  ∀ (pins : List (Addr × Obj)) (s : Shared) (σ : St) (H : Hp) (Q : Bool → Hp → Prop), Inv X pins σ H s → t σ H Q → wpAny (model X.prog X.w) X.A (isTrue e X.env (eval e X.env)) (TP X pins σ Q) X.xe s
def PW (X : Cx) (e : Expr) (t : TT) : Prop :=
  ∀ (whole : Sem Value) (pins : List (Addr × Obj)) (s : Shared) (σ : St) (H : Hp) (Q : Bool → Hp → Prop), Inv X pins σ H s → t σ H Q → wpAny (model X.prog X.w) X.A (isTrue e X.env whole) (TP X pins σ Q) X.xe s
theorem PW.pt {X : Cx} {e : Expr} {t : TT} (h : PW X e t) : PT X e t := h _
def PA (X : Cx) (es : List Expr) (t : TA) : Prop :=
  ∀ (pos : Pos) (pins : List (Addr × Obj)) (s : Shared) (σ : St) (H : Hp) (Q : List V → Hp → Prop), Inv X pins σ H s → t σ H Q → wpAny (model X.prog X.w) X.A (spliced (backTo pos (starEach es X.env))) (AP X pins σ Q) X.xe s
def PS (X : Cx) (st : Stmt) (t : TS) : Prop :=
  ∀ (pins : List (Addr × Obj)) (s : Shared) (σ : St) (H : Hp) (D : Ends), Inv X pins σ H s → t D σ H → wpAny (model X.prog X.w) X.A (exec st X.env) (SP X pins D) X.xe s
def PSs (X : Cx) (st : List Stmt) (t : TS) : Prop :=
  ∀ (pins : List (Addr × Obj)) (s : Shared) (σ : St) (H : Hp) (D : Ends), Inv X pins σ H s → t D σ H → wpAny (model X.prog X.w) X.A (execs st X.env) (SP X pins D) X.xe s
theorem thn {α : Type} {t : Sem α} {Q Q' : α → Shared → Prop} {M : Model} {A : Around} {E : Value → Shared → Prop} {s : Shared} (h : wpAny M A t Q E s) (hQ : ∀ a s, Q a s → Q' a s) : wpAny M A t Q' E s := wpAny_mono h hQ fun _ _ x => x
theorem thnE {t : Sem Value} {X : Cx} {pins : List (Addr × Obj)} {σ : St} {Q : VK} {Q' : Value → Shared → Prop} {M : Model} {A : Around} {E : Value → Shared → Prop} {s : Shared} (h : wpAny M A t (EP X pins σ Q) E s) (hQ : ∀ u s v H, Inv X pins σ H s → RelV v u → Q v H → Q' u s) : wpAny M A t Q' E s := thn h fun u s ⟨v, H, I, r, q⟩ => hQ u s v H I r q
theorem thnA {t : Sem (List Value)} {X : Cx} {pins : List (Addr × Obj)} {σ : St} {Q : List V → Hp → Prop} {Q' : List Value → Shared → Prop} {M : Model} {A : Around} {E : Value → Shared → Prop} {s : Shared} (h : wpAny M A t (AP X pins σ Q) E s) (hQ : ∀ u s v H, Inv X pins σ H s → Vals v u → Q v H → Q' u s) : wpAny M A t Q' E s := thn h fun u s ⟨v, H, I, r, q⟩ => hQ u s v H I r q
theorem thnT {t : Sem Bool} {X : Cx} {pins : List (Addr × Obj)} {σ : St} {Q : Bool → Hp → Prop} {Q' : Bool → Shared → Prop} {M : Model} {A : Around} {E : Value → Shared → Prop} {s : Shared} (h : wpAny M A t (TP X pins σ Q) E s) (hQ : ∀ u s H, Inv X pins σ H s → Q u H → Q' u s) : wpAny M A t Q' E s := thn h fun u s ⟨H, I, q⟩ => hQ u s H I q
end L2
namespace L2
open PySem PySem.Spec PyProof.Rows
section
variable {X : Cx}
def tVar (i : Nat) : TE := fun σ H Q => ∃ v, σ[i]? = some (some v) ∧ Q v H
def tC (v : V) : TE := fun _ H Q => Q v H
theorem pe_var {i : Nat} {x : Str} {pos : Pos} (hN : X.N[i]? = some x) (hv : Vis X.env.scope x) (hd : (x == ("__debug__" : Str)) = false := by decide) (hcd : (x == ("__classdict__" : Str)) = false := by decide) : PE X (.Name x pos) (tVar i) := by
  intro pins s σ H Q I h
  obtain ⟨v, e, h⟩ := h
  obtain ⟨m, hn, hl⟩ := I.loc
  obtain ⟨u, r, l⟩ := hl i x v hN e hv
  have fin : EP X pins σ Q u s := ⟨v, H, I, r, h⟩
  rcases l with ⟨hk, hm⟩ | ⟨hk, c, hc, hcell⟩
  · exact wpAny_Name (wpAny_loadName_local I.ok.kind hk hn hm fin) hd
  · rcases hk with hk | hk
    · exact wpAny_Name (wpAny_loadName_cell I.ok.kind hk hc hcell fin) hd
    · exact wpAny_Name (wpAny_loadName_free I.ok.kind hk hc hcell fin hcd) hd
theorem pe_int {i j pos} : PE X (.Constant (.int i) j pos) (tC (.int i)) := fun _ _ _ H _ I h => wpAny_Constant_int ⟨.int i, H, I.tok _, ⟨_, rfl⟩, h⟩
theorem pe_bl {b j pos} : PE X (.Constant (.bool b) j pos) (tC (.bl b)) := fun _ _ _ H _ I h => Constant_bool ⟨.bl b, H, I, rfl, h⟩
def Gl (X : Cx) (x : Str) : Prop := X.env.kindOf x = some .globalImplicit
theorem ld_glob {E : Value → Shared → Prop} {pins : List (Addr × Obj)} {s : Shared} {σ : St} {H : Hp} {x : Str} {u : Value} {pos : Pos} {Q : Value → Shared → Prop} (I : Inv X pins σ H s) (hg : Gl X x) (hm : X.mg x = some u) (h : Q u s)
    (hd : (x == ("__debug__" : Str)) = false := by decide) : wpAny (model X.prog X.w) X.A (eval (.Name x pos) X.env) Q E s :=
  Calls.Name_function_global I.ok.kind hg (Calls.loadGlobal_global (by rw [I.ok.glob]; exact I.mod.glob.keeps I.bk) hm h) hd
theorem ld_blt {E : Value → Shared → Prop} {pins : List (Addr × Obj)} {s : Shared} {σ : St} {H : Hp} {x : Str} {u : Value} {pos : Pos} {Q : Value → Shared → Prop} (I : Inv X pins σ H s) (hg : Gl X x) (hm : X.mg x = none) (hv : bootBuiltins x = some u) (h : Q u s)
    (hn : x ≠ "__name__" := by decide) (hd : (x == ("__debug__" : Str)) = false := by decide) : wpAny (model X.prog X.w) X.A (eval (.Name x pos) X.env) Q E s := by
  obtain ⟨mb, h1, h2⟩ := I.mod.blt
  exact Calls.Name_function_global I.ok.kind hg (Calls.loadGlobal_builtin (by rw [I.ok.glob]; exact I.mod.glob.keeps I.bk) hm (by rw [I.ok.blt]; exact h1.keeps I.bk) ((h2 x hn).trans hv) h) hd
theorem pe_bltn {x : Str} {v : V} {u : Value} {pos : Pos} (hg : Gl X x) (hm : X.mg x = none) (hv : bootBuiltins x = some u) (r : RelV v u) (hn : x ≠ "__name__" := by decide) (hd : (x == ("__debug__" : Str)) = false := by decide) : PE X (.Name x pos) (tC v) :=
  fun _ _ _ H _ I h => ld_blt I hg hm hv ⟨v, H, I, r, h⟩ hn hd
variable {a b : Expr} {ta tb : TE} {pos : Pos}
def PC (X : Cx) (op : CmpOp) (a b : Expr) (t : TE) : Prop :=
  ∀ (pins : List (Addr × Obj)) (s : Shared) (σ : St) (H : Hp) (Q : VK), Inv X pins σ H s → t σ H Q →
    wpAny (model X.prog X.w) X.A (eval a X.env) (fun v s₁ => wpAny (model X.prog X.w) X.A (eval b X.env) (fun u s₂ => wpAny (model X.prog X.w) X.A (compareOp op v u) (EP X pins σ Q) X.xe s₂) X.xe s₁) X.xe s
def tIsN (ta : TE) : TE := fun σ H Q => ta σ H fun x H1 => Q (.bl (decide (x = .non))) H1
def tNotN (ta : TE) : TE := fun σ H Q => ta σ H fun x H1 => Q (.bl (!decide (x = .non))) H1
def tB (t : TE) : TT := fun σ H Q => t σ H fun x H1 => ∃ c, x = .bl c ∧ Q c H1
theorem pt_val {e : Expr} {t : TE} (h : PE X e t) (he : ∀ whole, isTrue e X.env whole = (do let v ← whole; standAt e.pos; holding [v] (truthy v)) := by intro _; rfl) : PT X e (tB t) := by
  intro pins s σ H Q I hw
  refine isTrue_plain (thnE (h pins s σ H _ I hw) fun v s1 x H1 I1 r1 q1 => ?_) (he _)
  obtain ⟨d, rfl, q⟩ := q1
  cases r1
  exact wpAny_truthy_bool ⟨H1, I1, q⟩
variable {tA tB' : TT} {rest : List Expr}
def tAnd (t u : TT) : TT := fun σ H Q => t σ H fun c H1 => if c = true then u σ H1 Q else Q false H1
def tOr (t u : TT) : TT := fun σ H Q => t σ H fun c H1 => if c = true then Q true H1 else u σ H1 Q
def tNot (t : TT) : TT := fun σ H Q => t σ H fun c H1 => Q (!c) H1
theorem pw_or1 (ha : PT X a tA) : PW X (.BoolOp .Or [a] pos) tA := by
  intro wh pins s σ H Q I h
  refine isTrue_or (thn (ha pins s σ H Q I h) fun c s1 e => ?_)
  cases c with
  | false => exact isTrue_or_nil e
  | true => exact e
theorem pw_or (ha : PT X a tA) (hb : PW X (.BoolOp .Or (b :: rest) pos) tB') : PW X (.BoolOp .Or (a :: b :: rest) pos) (tOr tA tB') := by
  intro wh pins s σ H Q I h
  refine isTrue_or (thnT (ha pins s σ H _ I h) fun c s1 H1 I1 q1 => ?_)
  cases c with
  | true => exact ⟨H1, I1, q1⟩
  | false => exact hb wh pins s1 σ H1 Q I1 q1
theorem pt_not (ha : PT X a tA) : PT X (.UnaryOp .Not a pos) (tNot tA) := by
  intro pins s σ H Q I h
  exact isTrue_not (ha pins s σ H (fun c H1 => Q (!c) H1) I h)
def tAndV (ta tb : TE) : TE := fun σ H Q => ta σ H fun x H1 => ∃ c, x = .bl c ∧ if c = true then tb σ H1 Q else Q (.bl false) H1
def tOrV (ta tb : TE) : TE := fun σ H Q => ta σ H fun x H1 => ∃ c, x = .bl c ∧ if c = true then Q (.bl true) H1 else tb σ H1 Q
def tNotV (ta : TE) : TE := fun σ H Q => ta σ H fun x H1 => ∃ c, x = .bl c ∧ Q (.bl (!c)) H1
theorem pe_one {op} {t : TE} (h : PE X a t) : PE X (.BoolOp op [a] pos) t := fun pins s σ H Q I hw => BoolOp_one (h pins s σ H Q I hw)
theorem pe_and (ha : PE X a ta) (hb : PE X (.BoolOp .And (b :: rest) pos) tb) : PE X (.BoolOp .And (a :: b :: rest) pos) (tAndV ta tb) := by
  intro pins s σ H Q I h
  refine BoolOp_and (thnE (ha pins s σ H _ I h) fun v s1 x H1 I1 r1 q1 => ?_)
  obtain ⟨c, rfl, q1⟩ := q1
  cases r1
  refine wpAny_truthy_bool ?_
  cases c with
  | true => exact hb pins s1 σ H1 Q I1 q1
  | false => exact ⟨.bl false, H1, I1, rfl, q1⟩
theorem pe_not (ha : PE X a ta) : PE X (.UnaryOp .Not a pos) (tNotV ta) := by
  intro pins s σ H Q I h
  refine UnaryOp_ (thnE (ha pins s σ H _ I h) fun v s1 x H1 I1 r1 q1 => ?_)
  obtain ⟨c, rfl, q1⟩ := q1
  cases r1
  exact not_of (wpAny_truthy_bool ⟨.bl (!c), H1, I1, rfl, q1⟩)
def tIf (t : TT) (ta tb : TE) : TE := fun σ H Q => t σ H fun c H1 => if c = true then ta σ H1 Q else tb σ H1 Q
end
end L2
namespace L2
open PySem PySem.Spec PyProof.Rows
def SqL (K : PySem.W.Frag) (H : Hp) (a : Addr) (xs : List V) : Prop :=
  Rd H a (.lst xs) ∨
    ∃ (o : Obj) (its : Array Value) (n : Nat), K.lookup a = some o ∧ o.cls = .type "list" ∧ o.dict = none ∧ o.data = .seq its n ∧ its.size ≤ sizeLine ∧ Vals xs its.toList
def SqT (K : PySem.W.Frag) (H : Hp) (a : Addr) (xs : List V) : Prop :=
  Rd H a (.tup xs) ∨
    ∃ (o : Obj) (its : Array Value) (n : Nat), K.lookup a = some o ∧ o.cls = .type "tuple" ∧ o.data = .seq its n ∧ its.size ≤ sizeLine ∧ Vals xs its.toList
def absV : Value → Option V
  | .none => some .non
  | .bool b => some (.bl b)
  | .int i _ => some (.int i)
  | .str x _ => some (.str x)
  | .bytes b _ => some (.byt b)
  | .float b _ => some (.flt b)
  | .ref a => some (.ref a)
  | .type n => some (.ty n)
  | _ => none
theorem RelV.abs {x : V} {u : Value} (r : RelV x u) : absV u = some x := by
  cases x with
  | non => cases r; rfl
  | bl _ => cases r; rfl
  | int _ => obtain ⟨t, rfl⟩ := r; rfl
  | str _ => obtain ⟨t, rfl⟩ := r; rfl
  | byt _ => obtain ⟨t, rfl⟩ := r; rfl
  | flt _ => obtain ⟨t, rfl⟩ := r; rfl
  | ref _ => cases r; rfl
  | ty _ => cases r; rfl
theorem RelV.inj {x y : V} {u : Value} (r : RelV x u) (q : RelV y u) : x = y := Option.some.inj (r.abs.symm.trans q.abs)
theorem Vals.inj {xs ys : List V} {us : List Value} (h : Vals xs us) (h2 : Vals ys us) : xs = ys := by
  induction h generalizing ys with
  | nil => cases h2; rfl
  | cons r _ ih => cases h2 with | cons r2 t2 => rw [r.inj r2, ih t2]
section
variable {X : Cx} {pins : List (Addr × Obj)} {σ : St} {H : Hp} {s : Shared} {a : Addr} {xs ys : List V}
theorem SqL.of {K : PySem.W.Frag} (h : H a = some (.lst xs)) : SqL K H a xs := .inl (.inl h)
theorem SqT.of {K : PySem.W.Frag} (h : H a = some (.tup xs)) : SqT K H a xs := .inl (.inl h)
theorem Inv.list (I : Inv X pins σ H s) (h : SqL X.K H a xs) : ∃ its : List Value, Vals xs its ∧ PlainL s.heap a its.toArray ∧ xs.length ≤ sizeLine := by
  rcases h with h | ⟨o, its, n, hk, hc, hd, hs, hz, r⟩
  · obtain ⟨z, its, n, r, e⟩ := h.ok I.hok
    exact ⟨its, r, ⟨_, n, e, rfl, rfl, rfl⟩, z⟩
  · refine ⟨its.toList, r, ⟨o, n, I.kIn a o hk, hc, hd, by simpa using hs⟩, ?_⟩
    have e := r.length
    simp only [Array.length_toList] at e
    omega
theorem Inv.tuple (I : Inv X pins σ H s) (h : SqT X.K H a xs) : ∃ its : List Value, Vals xs its ∧ IsTup s.heap a its.toArray ∧ xs.length ≤ sizeLine := by
  rcases h with h | ⟨o, its, n, hk, hc, hs, hz, r⟩
  · obtain ⟨z, its, r, p⟩ := h.ok I.hok
    exact ⟨its, r, p, z⟩
  · refine ⟨its.toList, r, ⟨o, I.kIn a o hk, hc, n, by simpa using hs⟩, ?_⟩
    have e := r.length
    simp only [Array.length_toList] at e
    omega
theorem Inv.list_inj (I : Inv X pins σ H s) (h : SqL X.K H a xs) (h' : SqL X.K H a ys) : xs = ys := by
  obtain ⟨its, r, ⟨o, n, e, _, _, d⟩, _⟩ := I.list h
  obtain ⟨its', r', ⟨o', n', e', _, _, d'⟩, _⟩ := I.list h'
  rw [e] at e'; cases e'
  rw [d] at d'
  injection d' with d1 _
  have : its = its' := by simpa using congrArg Array.toList d1
  subst this
  exact r.inj r'
theorem Inv.tuple_inj (I : Inv X pins σ H s) (h : SqT X.K H a xs) (h' : SqT X.K H a ys) : xs = ys := by
  obtain ⟨its, r, ⟨o, e, _, n, d⟩, _⟩ := I.tuple h
  obtain ⟨its', r', ⟨o', e', _, n', d'⟩, _⟩ := I.tuple h'
  rw [e] at e'; cases e'
  rw [d] at d'
  injection d' with d1 _
  have : its = its' := by simpa using congrArg Array.toList d1
  subst this
  exact r.inj r'
end
abbrev Cx.wish (X : Cx) (E : Value → Shared → Prop) : Cx := { X with xe := E }
abbrev Cx.nox (X : Cx) : Cx := X.wish fun _ _ => False
theorem Cx.Ok.wish {X : Cx} (ok : X.Ok) (E : Value → Shared → Prop) : (X.wish E).Ok :=
  ⟨ok.mod, ok.kind, ok.glob, ok.blt, ok.above, ok.inj, ok.has, ok.cab, ok.hd, ok.frames, ok.stk, ok.exf, ok.bs, ok.bsz, ok.noex, ok.exfs, ok.funs, ok.frf⟩
theorem Cx.Ok.unwish {X : Cx} {E : Value → Shared → Prop} (ok : (X.wish E).Ok) : X.Ok :=
  ⟨ok.mod, ok.kind, ok.glob, ok.blt, ok.above, ok.inj, ok.has, ok.cab, ok.hd, ok.frames, ok.stk, ok.exf, ok.bs, ok.bsz, ok.noex, ok.exfs, ok.funs, ok.frf⟩
section
variable {X : Cx} {pins : List (Addr × Obj)} {σ : St} {H : Hp} {s : Shared} {E : Value → Shared → Prop}
theorem Inv.wish (I : Inv X pins σ H s) (E : Value → Shared → Prop) : Inv (X.wish E) pins σ H s := ⟨I.ok.wish E, I.os, I.bare, I.base, I.loc, I.cell, I.free, I.freeC, I.pin, I.hok, I.len⟩
theorem Inv.unwish (I : Inv (X.wish E) pins σ H s) : Inv X pins σ H s := ⟨I.ok.unwish, I.os, I.bare, I.base, I.loc, I.cell, I.free, I.freeC, I.pin, I.hok, I.len⟩
theorem SP.unwish {D : Ends} {f : Flow} {s' : Shared} (h : SP (X.wish E) pins D f s') : SP X pins D f s' := by
  cases f with
  | next => obtain ⟨σ', H', I, q⟩ := h; exact ⟨σ', H', I.unwish, q⟩
  | brk => obtain ⟨σ', H', I, q⟩ := h; exact ⟨σ', H', I.unwish, q⟩
  | cont => obtain ⟨σ', H', I, q⟩ := h; exact ⟨σ', H', I.unwish, q⟩
  | ret u => obtain ⟨v, σ', H', I, r, q⟩ := h; exact ⟨v, σ', H', I.unwish, r, q⟩
theorem PSs.nox {st : List Stmt} {t : TS} (h : PSs X.nox st t) : PSs X st t := fun pins s σ H D I hw =>
  wpAny_mono (h pins s σ H D (I.wish _) hw) (fun _ _ q => q.unwish) fun _ _ z => False.elim z
end
section
variable {X : Cx} {st : Stmt} {rest : List Stmt} {t u : TS} {e : Expr} {te : TE} {pos : Pos}
def tNext : TS := fun D σ H => D.nx σ H
def tSeq (t u : TS) : TS := fun D σ H => t { D with nx := u D } σ H
theorem pss_nil : PSs X [] tNext := fun _ _ σ H _ I h => wpAny_execs_nil ⟨σ, H, I, h⟩
theorem pss_cons (h1 : PS X st t) (h2 : PSs X rest u) : PSs X (st :: rest) (tSeq t u) := by
  intro pins s σ H D I h
  refine wpAny_execs_cons (thn (h1 pins s σ H { D with nx := u D } I h) fun f s1 q => ?_)
  cases f with
  | next =>
    obtain ⟨σ', H', I', q⟩ := q
    exact h2 pins s1 σ' H' D I' q
  | ret v => exact q
  | brk => exact q
  | cont => exact q
theorem pss_one (h1 : PS X st t) : PSs X [st] t := by
  intro pins s σ H D I h
  refine wpAny_execs_cons (thn (h1 pins s σ H D I h) fun f s1 q => ?_)
  cases f with
  | next => exact wpAny_execs_nil q
  | ret v => exact q
  | brk => exact q
  | cont => exact q
def tDrop (te : TE) : TS := fun D σ H => te σ H fun _ H1 => D.nx σ H1
def tRet (te : TE) : TS := fun D σ H => te σ H D.rt
theorem ps_ret (he : PE X e te) : PS X (.Return (some e) pos) (tRet te) := by
  intro pins s σ H D I h
  exact wpAny_Return_some (thnE (he pins s σ H _ I h) fun v s1 x H1 I1 r1 q1 => ⟨x, σ, H1, I1, r1, q1⟩)
def tRetN : TS := fun D _ H => D.rt .non H
def tIfS (c : TT) (t u : TS) : TS := fun D σ H => c σ H fun b H1 => if b = true then t D σ H1 else u D σ H1
theorem ps_if {c : Expr} {a b : List Stmt} {tc : TT} (hc : PT X c tc) (ha : PSs X a t) (hb : PSs X b u) : PS X (.If c a b pos) (tIfS tc t u) := by
  intro pins s σ H D I h
  refine wpAny_If (thnT (hc pins s σ H _ I h) fun d s1 H1 I1 q1 => ?_)
  cases d with
  | true => exact ha pins s1 σ H1 D I1 q1
  | false => exact hb pins s1 σ H1 D I1 q1
def tNever : TS := fun _ _ _ => False
end
abbrev TG := V → St → Hp → (St → Hp → Prop) → Prop
abbrev TGs := List V → St → Hp → (St → Hp → Prop) → Prop
def PG (X : Cx) (target : Expr) (t : TG) : Prop :=
  ∀ (pins : List (Addr × Obj)) (s : Shared) (σ : St) (H : Hp) (v : V) (u : Value) (Q : St → Hp → Prop), Inv X pins σ H s → RelV v u → t v σ H Q →
    wpAny (model X.prog X.w) X.A (assign target X.env u) (fun _ s' => ∃ σ' H', Inv X pins σ' H' s' ∧ Q σ' H') X.xe s
def PGs (X : Cx) (ts : List Expr) (t : TGs) : Prop :=
  ∀ (pins : List (Addr × Obj)) (s : Shared) (σ : St) (H : Hp) (vs : List V) (us : List Value) (Q : St → Hp → Prop), Inv X pins σ H s → Vals vs us → t vs σ H Q →
    wpAny (model X.prog X.w) X.A (assignInOrder ((assignEach ts X.env).map (·.2)) us) (fun _ s' => ∃ σ' H', Inv X pins σ' H' s' ∧ Q σ' H') X.xe s
abbrev TSet := V → V → V → Hp → (Hp → Prop) → Prop
def PSet (X : Cx) (t : TSet) : Prop :=
  ∀ (pins : List (Addr × Obj)) (s : Shared) (σ : St) (H : Hp) (o i v : V) (ov iv u : Value) (Q : Hp → Prop), Inv X pins σ H s → RelV o ov → RelV i iv → RelV v u → t o i v H Q →
    wpAny (model X.prog X.w) X.A (setItem ov iv u) (fun _ s' => ∃ H', Inv X pins σ H' s' ∧ Q H') X.xe s
abbrev TIp := V → V → Hp → VK → Prop
section
variable {X : Cx} {pos : Pos}
def gName (i : Nat) : TG := fun v σ H Q => Q (σ.set i (some v)) H
theorem pg_name {i : Nat} {x : Str} (hN : X.N.Nodup) (hi : X.N[i]? = some x) (hx : Loc X.env.scope x) (hf : X.fn x = true ∨ X.env.scope.names.lookup x = some .local := by first | exact .inl rfl | exact .inr rfl | assumption) : PG X (.Name x pos) (gName i) := by
  intro pins s σ H v u Q I r h
  exact wpAny_assign_Name (store_ok I hN hi hx r (fun s' I' => ⟨_, H, I', h⟩) hf)
def gNil : TGs := fun vs σ H Q => vs = [] ∧ Q σ H
def gCons (t : TG) (u : TGs) : TGs := fun vs σ H Q => ∃ v r, vs = v :: r ∧ t v σ H fun σ' H' => u r σ' H' Q
theorem pgs_nil : PGs X [] gNil := by
  intro pins s σ H vs us Q I r h
  obtain ⟨e, h⟩ := h
  subst e
  cases r
  exact assignInOrder_nil ⟨σ, H, I, h⟩
theorem pgs_cons {e : Expr} {es : List Expr} {t : TG} {u : TGs} (h1 : PG X e t) (h2 : PGs X es u)
    (hs : (assignEach (e :: es) X.env).map (·.2) = assign e X.env :: (assignEach es X.env).map (·.2) := by rfl) : PGs X (e :: es) (gCons t u) := by
  intro pins s σ H vs us Q I r h
  obtain ⟨v, vr, e1, h⟩ := h
  subst e1
  cases r with
  | cons r rr =>
    rw [hs]
    refine assignInOrder_cons (thn (h1 pins s σ H _ _ _ I r h) fun _ s1 ⟨σ1, H1, I1, q1⟩ => ?_)
    exact h2 pins s1 σ1 H1 _ _ Q I1 rr q1
def gTup (K : PySem.W.Frag) (n : Nat) (t : TGs) : TG := fun v σ H Q => ∃ a xs, v = .ref a ∧ SqT K H a xs ∧ xs.length = n ∧ t xs σ H Q
theorem pg_tup {es : List Expr} {k : Nat} {t : TGs} {n : Nat} (hc : X.calm = true) (h : PGs X es t)
    (hn : (assignEach es X.env).length = n := by rfl) (hst : (assignEach es X.env).findIdx? (·.1) = none := by rfl) : PG X (.Tuple es k pos) (gTup X.K n t) := by
  intro pins s σ H v u Q I r hw
  obtain ⟨a, xs, e1, hq, hl, hw⟩ := hw
  subst e1
  cases r
  obtain ⟨its, rv, ht, hz⟩ := I.tuple hq
  refine assign_Tuple_tuple (I.ok.hd hc) ht (by simp [hn, ← hl, rv.length]) hst fun h' hx => ?_
  have I1 : Inv X pins σ H { s with heap := h' } := I.kept (t' := s.toks) fun b o e => hx b o (Nat.ne_of_lt (Heap.lt_size e)) e
  exact h pins _ σ H xs _ Q I1 (by simpa using rv) hw
def gSub (to ti : TE) (t : TSet) : TG := fun v σ H Q => to σ H fun o H1 => ti σ H1 fun i H2 => t o i v H2 fun H3 => Q σ H3
theorem pg_sub {o i : Expr} {to ti : TE} {t : TSet} (ho : PE X o to) (hi : PE X i ti) (hs : PSet X t)
    (ha : ∀ v, assign (.Subscript o i pos) X.env v = (do
      let ov ← holding [v] (eval o X.env)
      let iv ← holding [v, ov] (eval i X.env)
      standAt pos
      holding [v, ov, iv] (setItem ov iv v)
      release [v, ov, iv] []) := by intro _; rfl) : PG X (.Subscript o i pos) (gSub to ti t) := by
  intro pins s σ H v u Q I r h
  rw [ha]
  refine wpAny_bind (wpAny_holding (thnE (ho pins s σ H _ I h) fun ov s1 x H1 I1 r1 q1 => ?_))
  refine wpAny_bind (wpAny_holding (thnE (hi pins s1 σ H1 _ I1 q1) fun iv s2 y H2 I2 r2 q2 => ?_))
  refine wpAny_bind (wpAny_standAt (wpAny_bind (wpAny_holding (thn (hs pins s2 σ H2 x y v ov iv u _ I2 r1 r2 r q2) fun _ s3 ⟨H3, I3, q3⟩ => ?_))))
  exact wpAny_release ⟨σ, H3, I3, q3⟩
def tAsg (te : TE) (g : TG) : TS := fun D σ H => te σ H fun x H1 => g x σ H1 D.nx
theorem ps_asg {tg e : Expr} {te : TE} {g : TG} (he : PE X e te) (hg : PG X tg g) (hs : swapsWithSole [tg] e pos.line X.env = pure false := by rfl) (hw : swappedStores [tg] e X.env = pure none := by rfl)
    (h1 : (assignEach [tg] X.env).map (·.2) = [assign tg X.env] := by rfl) : PS X (.Assign [tg] e pos) (tAsg te g) := by
  intro pins s σ H D I h
  refine wpAny_Assign_stores (thnE (he pins s σ H _ I h) fun v s1 x H1 I1 r1 q1 => ?_) hs hw
  rw [h1]
  exact thn (hg pins s1 σ H1 x v _ I1 r1 q1) fun _ s2 q => q
theorem ps_set {i : Nat} {x : Str} {e : Expr} {te : TE} {pos' : Pos} (hN : X.N.Nodup) (hi : X.N[i]? = some x) (hx : Loc X.env.scope x) (he : PE X e te) (hs : swapsWith e (some (.Name x pos')) pos.line X.env = pure false := by rfl) (hf : X.fn x = true ∨ X.env.scope.names.lookup x = some .local := by first | exact .inl rfl | exact .inr rfl | assumption) :
    PS X (.Assign [.Name x pos'] e pos) (tAsg te (gName i)) := by
  intro pins s σ H D I h
  refine wpAny_Assign_Name (thnE (he pins s σ H _ I h) fun v s1 y H1 I1 r1 q1 => ?_) hs
  exact store_ok I1 hN hi hx r1 (fun s2 I2 => ⟨_, H1, I2, q1⟩) hf
def tAug (i : Nat) (te : TE) (ti : TIp) : TS := fun D σ H => ∃ x, σ[i]? = some (some x) ∧ te σ H fun y H1 => ti x y H1 fun z H2 => D.nx (σ.set i (some z)) H2
def tAugS (to ti te : TE) (tget : V → V → Hp → VK → Prop) (tip : TIp) (tset : TSet) : TS := fun D σ H => to σ H fun o H1 => ti σ H1 fun i H2 => tget o i H2 fun x H3 => te σ H3 fun y H4 => tip x y H4 fun z H5 => tset o i z H5 fun H6 => D.nx σ H6
def ipI (f : Int → Int → Int) : TIp := fun x y H Q => ∃ i j, x = .int i ∧ y = .int j ∧ Q (.int (f i j)) H
end
section
variable {X : Cx} {pos : Pos}
def tWhile (c : TT) (tb : TS) : TS := fun D σ H => ∃ W : Nat → St → Hp → Prop, (∃ m, W m σ H) ∧ ∀ m σ H, W m σ H →
  c σ H fun b H1 => if b = true then ∃ N : St → Hp → Prop, (∀ σ' H', N σ' H' → ∃ m', m' < m ∧ W m' σ' H') ∧ tb { D with nx := N, ct := N, bk := D.nx } σ H1 else D.nx σ H1
theorem ps_while {c : Expr} {body : List Stmt} {tc : TT} {tb : TS} (hp : PassesOwn (model X.prog X.w) X.A X.env X.xe) (hc : PT X c tc) (hb : PSs X body tb) : PS X (.While c body [] pos) (tWhile tc tb) := by
  intro pins s σ H D I h
  obtain ⟨W, ⟨m0, w0⟩, turn⟩ := h
  refine wpAny_While (codeAny_whileLoop (fun n s' => ∃ σ' H', Inv X pins σ' H' s' ∧ W n σ' H') ?_ m0 ⟨σ, H, I, w0⟩)
  rintro n s1 ⟨σ1, H1, I1, w1⟩
  refine wpAny_passesOwn hp (thnT (hc pins s1 σ1 H1 _ I1 (turn n σ1 H1 w1)) fun b s2 H2 I2 q2 => ?_)
  cases b with
  | true =>
    obtain ⟨N, hN, q2⟩ := q2
    rw [if_pos rfl]
    refine wpAny_passesOwn hp (thn (hb pins s2 σ1 H2 _ I2 q2) fun f s3 q3 => ?_)
    cases f with
    | next =>
      obtain ⟨σ3, H3, I3, n3⟩ := q3
      obtain ⟨m', hm, w3⟩ := hN σ3 H3 n3
      exact ⟨m', hm, σ3, H3, I3, w3⟩
    | cont =>
      obtain ⟨σ3, H3, I3, n3⟩ := q3
      obtain ⟨m', hm, w3⟩ := hN σ3 H3 n3
      exact ⟨m', hm, σ3, H3, I3, w3⟩
    | brk => exact q3
    | ret v => exact q3
  | false =>
    rw [if_neg Bool.false_ne_true]
    exact wpAny_execs_nil ⟨σ1, H2, I2, q2⟩
end
structure It where
  go : Nat → Hp → Prop
  yld : Nat → Hp → V → Hp → Prop
  stop : Nat → Hp → Prop
def FpOk (X : Cx) (pins : List (Addr × Obj)) (H : Hp) (b : Addr) : Prop :=
  H b = none ∧ b ≠ X.env.locals ∧ b ∉ X.fs ∧ (b ∈ X.ex ∨ X.s₀.heap.objs.size ≤ b) ∧ (∀ x c, X.env.cells.lookup x = some c → c ≠ b) ∧ ∀ p ∈ X.pn ++ pins, p.1 ≠ b
theorem Inv.fpOk {X : Cx} {pins : List (Addr × Obj)} {σ : St} {H H' : Hp} {s : Shared} {b : Addr} (I : Inv X pins σ H s) (hb : s.heap.objs.size ≤ b) (hn : H' b = none) : FpOk X pins H' b := by
  refine ⟨hn, Nat.ne_of_gt (Nat.lt_of_lt_of_le I.lt hb), I.nofs hb, .inr (Nat.le_trans I.sz hb), fun x c e z => ?_, fun p hp z => ?_⟩
  · obtain ⟨v, q⟩ := I.cell x c e
    exact absurd (Nat.lt_of_lt_of_le q.lt (by rw [z]; exact hb)) (Nat.lt_irrefl _)
  · exact absurd (Nat.lt_of_lt_of_le (Heap.lt_size (I.pin p hp).1) (by rw [z]; exact hb)) (Nat.lt_irrefl _)
structure Turn (P : Program) (w : World) (K : PySem.W.Frag) (tg : Expr) (J : It) (fp : List Addr) (it : Addr) (tn : Nat → Heap → Prop) : Prop where
  mem : it ∈ fp
  obj : ∀ i h, tn i h → ∀ b ∈ fp, ∃ o, h.get? b = some o ∧ ∀ v, o.data ≠ .cell v
  keep : ∀ i h h', tn i h → (∀ b ∈ fp, ∀ o, h.get? b = some o → h'.get? b = some o) → tn i h'
  item : ∀ (X : Cx), X.prog = P → X.w = w → X.K = K → X.calm = true → ∀ (i : Nat) (pins : List (Addr × Obj)) (s : Shared) (σ : St) (H : Hp) (E : Value → Shared → Prop), Inv X pins σ H s → (∀ b ∈ fp, FpOk X pins H b) → tn i s.heap → J.go i H →
    wpAny (model P w) X.A (pyNext (.ref it)) (fun r s1 => ∃ u, r = some u ∧
      wpAny (model P w) X.A (letOwnedTupleGo tg (.ref it) u) (fun _ s2 => ∃ x H', Inv X pins σ H' s2 ∧ RelV x u ∧ J.yld i H x H' ∧ tn (i + 1) s2.heap ∧ ∀ b ∈ fp, H' b = none) E s1) E s
  done : ∀ (X : Cx), X.prog = P → X.w = w → X.K = K → X.calm = true → ∀ (i : Nat) (pins : List (Addr × Obj)) (s : Shared) (σ : St) (H : Hp) (E : Value → Shared → Prop), Inv X pins σ H s → (∀ b ∈ fp, FpOk X pins H b) → tn i s.heap → J.stop i H →
    wpAny (model P w) X.A (pyNext (.ref it)) (fun r s1 => r = none ∧ Inv X pins σ H s1) E s
  self : ∀ (A : Around) (i : Nat) (s : Shared) (Q : Value → Shared → Prop) (E : Value → Shared → Prop), tn i s.heap → Q (.ref it) s → wpAny (model P w) A (pyIter (.ref it)) Q E s
abbrev TI := St → Hp → (It → Hp → Prop) → Prop
def PIE (X : Cx) (pins : List (Addr × Obj)) (σ : St) (tg : Expr) (R : It → Hp → Prop) (itv : Value) (s2 : Shared) : Prop :=
  ∃ (it : Addr) (fp : List Addr) (tn : Nat → Heap → Prop) (J : It) (H' : Hp), itv = .ref it ∧ Inv X pins σ H' s2 ∧ Turn X.prog X.w X.K tg J fp it tn ∧ tn 0 s2.heap ∧ (∀ b ∈ fp, FpOk X pins H' b) ∧ R J H'
def PI (X : Cx) (tg iter : Expr) (wi : TI) : Prop :=
  ∀ (pins : List (Addr × Obj)) (s : Shared) (σ : St) (H : Hp) (R : It → Hp → Prop), Inv X pins σ H s → wi σ H R →
    wpAny (model X.prog X.w) X.A (eval iter X.env) (fun v s1 => wpAny (model X.prog X.w) X.A (pyIter v) (PIE X pins σ tg R) X.xe s1) X.xe s
theorem go_of {M : Model} {A : Around} {E : Value → Shared → Prop} {s : Shared} {tg : Expr} {it : Addr} {u : Value} {o : Obj} {n : String} {vs : Array Value} {Q : Unit → Shared → Prop} (ho : s.heap.get? it = some o) (hc : o.cls = .type n) (hd : o.data = .fields vs)
    (hn : ["enumerate", "zip", "dict_itemiterator", "dict_reverseitemiterator", "odict_iterator", "itertools.zip_longest", "itertools.pairwise"].contains n = false) (hQ : Q () s) : wpAny M A (letOwnedTupleGo tg (.ref it) u) Q E s := by
  unfold letOwnedTupleGo
  cases tg <;> first
    | exact wpAny_pure hQ
    | (cases u <;> first
        | exact wpAny_pure hQ
        | (refine wpAny_bind (wpAny_load ho ?_)
           rw [hc, hd]
           show wpAny M A (if (["enumerate", "zip", "dict_itemiterator", "dict_reverseitemiterator", "odict_iterator", "itertools.zip_longest", "itertools.pairwise"].contains n && vs[0]? == some (rawInt _)) = true then _ else _) Q E s
           rw [if_neg (by intro h; rw [hn, Bool.false_and] at h; cases h)]
           exact wpAny_pure hQ))
def Itl (K : PySem.W.Frag) (a : Addr) : It :=
  ⟨fun i H => ∃ xs x, SqL K H a xs ∧ xs[i]? = some x, fun i H x H' => H' = H ∧ ∀ xs, SqL K H a xs → xs[i]? = some x, fun i H => ∃ xs, SqL K H a xs ∧ xs.length ≤ i⟩
def Itt (K : PySem.W.Frag) (a : Addr) : It :=
  ⟨fun i H => ∃ xs x, SqT K H a xs ∧ xs[i]? = some x, fun i H x H' => H' = H ∧ ∀ xs, SqT K H a xs → xs[i]? = some x, fun i H => ∃ xs, SqT K H a xs ∧ xs.length ≤ i⟩
def Itr (lo : Int) (n : Nat) : It := ⟨fun i _ => i < n, fun i H x H' => H' = H ∧ x = .int (lo + i), fun i _ => n ≤ i⟩
theorem turn_list {P : Program} {w : World} {K : PySem.W.Frag} {tg : Expr} (a it : Addr) : Turn P w K tg (Itl K a) [it] it (fun i h => h.IsListIter it a i) where
  mem := by simp
  obj := fun i h st b hb => by
    have e : b = it := by simpa using hb
    subst e
    obtain ⟨o, e, c, d⟩ := st
    exact ⟨o, e, fun v z => by rw [d] at z; cases z⟩
  keep := fun i h h' st k => st.at fun o e => k it (by simp) o e
  item := by
    intro X hP hw hK hc i pins s σ H E I hf st hg
    subst hP hw hK
    obtain ⟨xs, x, hq, hx⟩ := hg
    obtain ⟨its, rv, p, hz⟩ := I.list hq
    obtain ⟨u, hu, ru⟩ := rv.get hx
    obtain ⟨f0, f1, f2, f3, f4, f5⟩ := hf it (by simp)
    refine wpAny_pyNext_list_item st p.isList (x := u) (by simpa using hu) fun h' st' sb => ?_
    have I1 : Inv X pins σ H { s with heap := h' } := I.turned (t' := s.toks) (fun b o hb e => (sb.2 b hb).trans e) f0 f1 f3 f4 f5
    obtain ⟨o, e, c, d⟩ := id st'
    exact ⟨u, rfl, go_of (s := { s with heap := h' }) e c d (by decide) ⟨x, H, I1, ru, ⟨rfl, fun ys hy => by rw [I.list_inj hy hq]; exact hx⟩, st', fun b hb => (hf b hb).1⟩⟩
  done := by
    intro X hP hw hK hc i pins s σ H E I hf st hg
    subst hP hw hK
    obtain ⟨xs, hq, hx⟩ := hg
    obtain ⟨its, rv, p, hz⟩ := I.list hq
    obtain ⟨f0, f1, f2, f3, f4, f5⟩ := hf it (by simp)
    have hl := rv.length
    exact wpAny_pyNext_list_end (I.ok.hd hc) st p.isList (by simp; omega) fun h' eb => ⟨rfl, I.turned (t' := s.toks) (fun b o hb e => eb b o hb e) f0 f1 f3 f4 f5⟩
  self := fun _ _ _ _ _ st h => wpAny_pyIter_listiter st h
theorem turn_tuple {P : Program} {w : World} {K : PySem.W.Frag} {tg : Expr} (a it : Addr) : Turn P w K tg (Itt K a) [it] it (fun i h => h.IsTupleIter it a i) where
  mem := by simp
  obj := fun i h st b hb => by
    have e : b = it := by simpa using hb
    subst e
    obtain ⟨o, e, c, d⟩ := st
    exact ⟨o, e, fun v z => by rw [d] at z; cases z⟩
  keep := fun i h h' st k => st.at fun o e => k it (by simp) o e
  item := by
    intro X hP hw hK hc i pins s σ H E I hf st hg
    subst hP hw hK
    obtain ⟨xs, x, hq, hx⟩ := hg
    obtain ⟨its, rv, p, hz⟩ := I.tuple hq
    obtain ⟨u, hu, ru⟩ := rv.get hx
    obtain ⟨f0, f1, f2, f3, f4, f5⟩ := hf it (by simp)
    refine wpAny_pyNext_tuple_item st (show s.heap.IsTuple a its.toArray from p) (x := u) (by simpa using hu) fun h' st' sb => ?_
    have I1 : Inv X pins σ H { s with heap := h' } := I.turned (t' := s.toks) (fun b o hb e => (sb.2 b hb).trans e) f0 f1 f3 f4 f5
    obtain ⟨o, e, c, d⟩ := id st'
    exact ⟨u, rfl, go_of (s := { s with heap := h' }) e c d (by decide) ⟨x, H, I1, ru, ⟨rfl, fun ys hy => by rw [I.tuple_inj hy hq]; exact hx⟩, st', fun b hb => (hf b hb).1⟩⟩
  done := by
    intro X hP hw hK hc i pins s σ H E I hf st hg
    subst hP hw hK
    obtain ⟨xs, hq, hx⟩ := hg
    obtain ⟨its, rv, p, hz⟩ := I.tuple hq
    obtain ⟨f0, f1, f2, f3, f4, f5⟩ := hf it (by simp)
    have hl := rv.length
    exact wpAny_pyNext_tuple_end (I.ok.hd hc) st (show s.heap.IsTuple a its.toArray from p) (by simp; omega) fun h' eb => ⟨rfl, I.turned (t' := s.toks) (fun b o hb e => eb b o hb e) f0 f1 f3 f4 f5⟩
  self := fun _ _ _ _ _ st h => wpAny_pyIter_tupleiter st h
theorem turn_range {P : Program} {w : World} {K : PySem.W.Frag} {tg : Expr} (it : Addr) (lo : Int) (n : Nat) : Turn P w K tg (Itr lo n) [it] it (fun i h => IsRangeIter h it (lo + (i : Nat) * 1) ((n : Int) - (i : Nat)) 1) where
  mem := by simp
  obj := fun i h st b hb => by
    have e : b = it := by simpa using hb
    subst e
    exact ⟨_, st, fun v z => by
      have z' : Data.fields _ = Data.cell v := z
      cases z'⟩
  keep := fun i h h' st k => k it (by simp) _ st
  item := by
    intro X hP hw hK hc i pins s σ H E I hf st hg
    subst hP hw hK
    obtain ⟨f0, f1, f2, f3, f4, f5⟩ := hf it (by simp)
    have W := Walks.range (prog := X.prog) (w := X.w) (I.ok.hd hc) it lo 1 n
    refine W.item i s _ _ hg st fun v h' tk hv st' kk => ?_
    obtain ⟨t, rfl⟩ := hv
    have I1 : Inv X pins σ H { s with heap := h', toks := tk } := I.turned (fun b o hb e => kk b o (by simpa using hb) e) f0 f1 f3 f4 f5
    refine ⟨_, rfl, go_of (s := { s with heap := h', toks := tk }) (n := "range_iterator") st' rfl rfl (by decide) ⟨.int (lo + i), H, I1, ⟨t, ?_⟩, ⟨rfl, rfl⟩, st', fun b hb => (hf b hb).1⟩⟩
    rw [Int.mul_one]
  done := by
    intro X hP hw hK hc i pins s σ H E I hf st hg
    subst hP hw hK
    obtain ⟨f0, f1, f2, f3, f4, f5⟩ := hf it (by simp)
    exact wpAny_pyNext_range_end (I.ok.hd hc) st (by have : n ≤ i := hg; omega) fun h' eb => ⟨rfl, I.turned (t' := s.toks) (fun b o hb e => eb b o hb e) f0 f1 f3 f4 f5⟩
  self := fun _ _ _ _ _ st h => wpAny_pyIter_rangeiter st h
end L2
namespace L2
open PySem PySem.Spec PyProof.Rows
section
variable {X : Cx} {tg : Expr}
def iList (K : PySem.W.Frag) (tl : TE) : TI := fun σ H R => tl σ H fun x H1 => ∃ a, x = .ref a ∧ (∃ xs, SqL K H1 a xs) ∧ R (Itl K a) H1
def iTup (K : PySem.W.Frag) (tl : TE) : TI := fun σ H R => tl σ H fun x H1 => ∃ a, x = .ref a ∧ (∃ xs, SqT K H1 a xs) ∧ R (Itt K a) H1
theorem pi_list {l : Expr} {tl : TE} (hl : PE X l tl) : PI X tg l (iList X.K tl) := by
  intro pins s σ H R I h
  refine thnE (hl pins s σ H _ I h) fun v s1 x H1 I1 r1 q1 => ?_
  obtain ⟨a, e, ⟨xs, hq⟩, q⟩ := q1
  subst e
  cases r1
  obtain ⟨its, rv, p, hz⟩ := I1.list hq
  refine wpAny_pyIter_list p.isList ?_
  refine ⟨s1.heap.objs.size, [s1.heap.objs.size], _, _, H1, rfl, I1.kept (t' := s1.toks) fun b o e => Heap.get?_push_of_some _ e, turn_list a _, ⟨_, Heap.get?_push_size _ rfl, rfl, rfl⟩, fun b hb => ?_, q⟩
  have e : b = s1.heap.objs.size := by simpa using hb
  subst e
  exact I1.fpOk (Nat.le_refl _) (I1.hok.fresh (Nat.le_refl _))
theorem pi_tup {l : Expr} {tl : TE} (hl : PE X l tl) : PI X tg l (iTup X.K tl) := by
  intro pins s σ H R I h
  refine thnE (hl pins s σ H _ I h) fun v s1 x H1 I1 r1 q1 => ?_
  obtain ⟨a, e, ⟨xs, hq⟩, q⟩ := q1
  subst e
  cases r1
  obtain ⟨its, rv, p, hz⟩ := I1.tuple hq
  refine wpAny_pyIter_tuple (show s1.heap.IsTuple a its.toArray from p) ?_
  refine ⟨s1.heap.objs.size, [s1.heap.objs.size], _, _, H1, rfl, I1.kept (t' := s1.toks) fun b o e => Heap.get?_push_of_some _ e, turn_tuple a _, ⟨_, Heap.get?_push_size _ rfl, rfl, rfl⟩, fun b hb => ?_, q⟩
  have e : b = s1.heap.objs.size := by simpa using hb
  subst e
  exact I1.fpOk (Nat.le_refl _) (I1.hok.fresh (Nat.le_refl _))
theorem range_it {pins : List (Addr × Obj)} {σ : St} {H : Hp} {s : Shared} {R : It → Hp → Prop} {E : Value → Shared → Prop} {lo hi : Int} {t u v : Tok} {tk : Nat} (I : Inv X pins σ H s) (h1 : -(2 ^ 62) ≤ lo) (h2 : lo < 2 ^ 62) (h3 : -(2 ^ 62) ≤ hi) (h4 : hi < 2 ^ 62)
    (q : R (Itr lo (hi - lo).toNat) H) : wpAny (model X.prog X.w) X.A (pyIter (.ref s.heap.objs.size)) (PIE X pins σ tg R) E { s with heap := s.heap.push { cls := .type "range", data := .fields #[.int lo t, .int hi u, .int 1 v] }, toks := tk } := by
  refine wpAny_pyIter_range (IsRange.new ..) (small_one h1 h2 h3 h4) ?_
  have I1 : Inv X pins σ H { s with heap := s.heap.push { cls := .type "range", data := .fields #[.int lo t, .int hi u, .int 1 v] }, toks := tk } := I.kept fun b o e => Heap.get?_push_of_some _ e
  refine ⟨(s.heap.push { cls := .type "range", data := .fields #[.int lo t, .int hi u, .int 1 v] }).objs.size, [(s.heap.push { cls := .type "range", data := .fields #[.int lo t, .int hi u, .int 1 v] }).objs.size], _, _, H, rfl,
    I1.kept (t' := tk) fun b o e => Heap.get?_push_of_some _ e, turn_range _ lo (hi - lo).toNat, ?_, fun b hb => ?_, q⟩
  · have e1 : lo + ((0 : Nat) : Int) * 1 = lo := by simp
    have e2 : (((hi - lo).toNat : Nat) : Int) - ((0 : Nat) : Int) = Builtin.Range.rangeSize lo hi 1 := by rw [rangeSize_one]; split <;> omega
    show IsRangeIter _ _ (lo + ((0 : Nat) : Int) * 1) ((((hi - lo).toNat : Nat) : Int) - ((0 : Nat) : Int)) 1
    rw [e1, e2]
    exact Heap.get?_push_size _ rfl
  · have e : b = (s.heap.push { cls := .type "range", data := .fields #[.int lo t, .int hi u, .int 1 v] }).objs.size := by simpa using hb
    subst e
    exact I1.fpOk (Nat.le_refl _) (I1.hok.fresh (Nat.le_refl _))
def iRng1 (ta : TA) : TI := fun σ H R => ta σ H fun vs H1 => ∃ j : Int, vs = [.int j] ∧ -(2 ^ 62) ≤ j ∧ j < 2 ^ 62 ∧ R (Itr 0 j.toNat) H1
def iRng2 (ta : TA) : TI := fun σ H R => ta σ H fun vs H1 => ∃ i j : Int, vs = [.int i, .int j] ∧ (-(2 ^ 62) ≤ i ∧ i < 2 ^ 62 ∧ -(2 ^ 62) ≤ j ∧ j < 2 ^ 62) ∧ R (Itr i (j - i).toNat) H1
theorem pi_range1 {a : Expr} {ta : TA} {p pos : Pos} (hg : Gl X "range") (hm : X.mg "range" = none) (ha : PA X [a] ta) (hs : starEach [a] X.env = [(false, eval a X.env)] := by rfl) : PI X tg (.Call (.Name "range" p) [a] [] pos) (iRng1 ta) := by
  intro pins s σ H R I h
  refine Call_ (ld_blt I hg hm boot_range (PyProof.Rows.callWith_type1 (thnA (ha pos pins s σ H _ I h) fun us s1 vs H1 I1 r1 q1 => ?_) hs rfl))
  obtain ⟨j, e, q1, q2, q⟩ := q1
  subst e
  cases r1 with
  | cons r rr =>
    cases rr
    obtain ⟨t, rfl⟩ := r
    exact call_range_1 (range_it I1 (by omega) (by omega) q1 q2 (by simpa using q))
def tFor (wi : TI) (g : TG) (tb : TS) : TS := fun D σ H => wi σ H fun J H1 => ∃ W : Nat → Nat → St → Hp → Prop, (∃ m, W 0 m σ H1) ∧ ∀ i m σ H, W i m σ H →
  (J.stop i H ∧ D.nx σ H) ∨ (J.go i H ∧ ∃ N : St → Hp → Prop, (∀ σ' H', N σ' H' → ∃ m', m' < m ∧ W (i + 1) m' σ' H') ∧ ∀ x H', J.yld i H x H' → g x σ H' fun σ2 H2 => tb { D with nx := N, ct := N, bk := D.nx } σ2 H2)
def pinsAt (fp : List Addr) (h : Heap) : List (Addr × Obj) := fp.filterMap fun b => (h.get? b).map fun o => (b, o)
theorem mem_pinsAt {fp : List Addr} {h : Heap} {b : Addr} {o : Obj} (hb : b ∈ fp) (e : h.get? b = some o) : (b, o) ∈ pinsAt fp h := List.mem_filterMap.mpr ⟨b, hb, by rw [e]; rfl⟩
theorem of_pinsAt {fp : List Addr} {h : Heap} {p : Addr × Obj} (hp : p ∈ pinsAt fp h) : p.1 ∈ fp ∧ h.get? p.1 = some p.2 := by
  obtain ⟨b, hb, e⟩ := List.mem_filterMap.mp hp
  cases q : h.get? b with
  | none => rw [q] at e; cases e
  | some o =>
    rw [q] at e
    have e' : (b, o) = p := Option.some.inj e
    subst e'
    exact ⟨hb, q⟩
theorem Inv.pinned {pins : List (Addr × Obj)} {σ : St} {H : Hp} {s : Shared} {fp : List Addr} (I : Inv X pins σ H s) (hf : ∀ b ∈ fp, FpOk X pins H b) (ho : ∀ b ∈ fp, ∃ o, s.heap.get? b = some o ∧ ∀ v, o.data ≠ .cell v) : Inv X (pins ++ pinsAt fp s.heap) σ H s :=
  I.pins_of fun p hp => (List.mem_append.mp hp).elim (fun z => I.pin p (List.mem_append_right _ z)) fun z => by
    obtain ⟨hb, e⟩ := of_pinsAt z
    obtain ⟨f0, f1, f2, _⟩ := hf p.1 hb
    obtain ⟨o, e', d⟩ := ho p.1 hb
    rw [e] at e'; cases e'
    exact ⟨e, f0, f1, f2, d⟩
theorem Inv.unpinned {pins pl : List (Addr × Obj)} {σ : St} {H : Hp} {s : Shared} (I : Inv X (pins ++ pl) σ H s) : Inv X pins σ H s := I.pins_of fun p hp => I.pin p (List.mem_append_right _ (List.mem_append_left _ hp))
theorem ps_for {iter : Expr} {body : List Stmt} {wi : TI} {g : TG} {tb : TS} {pos : Pos} (hp : PassesOwn (model X.prog X.w) X.A X.env X.xe) (hc : X.calm = true) (hi : PI X tg iter wi) (hg : PG X tg g) (hb : PSs X body tb)
    (hs : ∀ x, foldedSetIterable iter X.env x = pure x := by intro _; rfl) : PS X (.For tg iter body [] pos) (tFor wi g tb) := by
  intro pins s σ H D I h
  refine wpAny_For (thn (hi pins s σ H _ I h) fun v s1 h1 => thn h1 fun itv s2 h2 => ?_) hs
  obtain ⟨it, fp, tn, J, H2, e, I2, T, st2, f2, W, ⟨m0, w0⟩, turn⟩ := h2
  subst e
  -- what stays true of the iterator's objects through the loop
  have stat : ∀ {H' : Hp}, (∀ b ∈ fp, H' b = none) → ∀ b ∈ fp, FpOk X pins H' b := fun hn b hb => ⟨hn b hb, (f2 b hb).2⟩
  refine codeAny_forLoop_any (fun n s' => ∃ i σ' H', Inv X pins σ' H' s' ∧ tn i s'.heap ∧ (∀ b ∈ fp, H' b = none) ∧ W i n σ' H') ?_ m0 ⟨0, σ, H2, I2, st2, fun b hb => (f2 b hb).1, w0⟩
  rintro n s3 ⟨i, σ3, H3, I3, st3, fr3, w3⟩
  rcases turn i n σ3 H3 w3 with ⟨stop, qn⟩ | ⟨go, N, hN, step⟩
  · refine wpAny_passesOwn hp (thn (T.done X rfl rfl rfl hc i pins s3 σ3 H3 X.xe I3 (stat fr3) st3 stop) fun r s4 ⟨hr, I4⟩ => ?_)
    subst hr
    exact wpAny_execs_nil ⟨σ3, H3, I4, qn⟩
  · refine wpAny_passesOwn hp (thn (T.item X rfl rfl rfl hc i pins s3 σ3 H3 X.xe I3 (stat fr3) st3 go) fun r s4 ⟨u, hr, h4⟩ => ?_)
    subst hr
    refine wpAny_passesOwn hp (thn h4 fun _ s5 ⟨x, H5, I5, r5, y5, st5, fr5⟩ => ?_)
    have I5' := I5.pinned (stat fr5) (T.obj _ _ st5)
    refine wpAny_passesOwn hp (thn (hg _ s5 σ3 H5 x u _ I5' r5 (step x H5 y5)) fun _ s6 ⟨σ6, H6, I6, q6⟩ => ?_)
    refine wpAny_passesOwn hp (thn (hb _ s6 σ6 H6 _ I6 q6) fun f s7 q7 => ?_)
    have again : ∀ {σ7 : St} {H7 : Hp}, Inv X (pins ++ pinsAt fp s5.heap) σ7 H7 s7 → N σ7 H7 → ∃ m, m < n ∧ ∃ i σ' H', Inv X pins σ' H' s7 ∧ tn i s7.heap ∧ (∀ b ∈ fp, H' b = none) ∧ W i m σ' H' := fun {σ7 H7} I7 n7 => by
      obtain ⟨m', hm, w7⟩ := hN σ7 H7 n7
      refine ⟨m', hm, i + 1, σ7, H7, I7.unpinned, T.keep _ _ _ st5 fun b hb o e => (I7.pin (b, o) (List.mem_append_right _ (List.mem_append_right _ (mem_pinsAt hb e)))).1, fun b hb => ?_, w7⟩
      obtain ⟨o, e, d⟩ := T.obj _ _ st5 b hb
      exact (I7.pin (b, o) (List.mem_append_right _ (List.mem_append_right _ (mem_pinsAt hb e)))).2.1
    cases f with
    | next => obtain ⟨σ7, H7, I7, n7⟩ := q7; exact again I7 n7
    | cont => obtain ⟨σ7, H7, I7, n7⟩ := q7; exact again I7 n7
    | brk => obtain ⟨σ7, H7, I7, q7⟩ := q7; exact ⟨σ7, H7, I7.unpinned, q7⟩
    | ret v => obtain ⟨x7, σ7, H7, I7, r7, q7⟩ := q7; exact ⟨x7, σ7, H7, I7.unpinned, r7, q7⟩
end
theorem for_list {K : PySem.W.Frag} {a : Addr} {xs : List V} {g : TG} {tb : TS} {D : Ends} {σ : St} {H : Hp} (Pv : Nat → St → Hp → Prop) (h0 : Pv 0 σ H) (hl : ∀ i σ H, i ≤ xs.length → Pv i σ H → SqL K H a xs)
    (hs : ∀ i x σ H, xs[i]? = some x → Pv i σ H → g x σ H fun σ2 H2 => tb { D with nx := Pv (i + 1), ct := Pv (i + 1), bk := D.nx } σ2 H2) (hd : ∀ σ H, Pv xs.length σ H → D.nx σ H) :
    ∃ W : Nat → Nat → St → Hp → Prop, (∃ m, W 0 m σ H) ∧ ∀ i m σ H, W i m σ H →
      ((Itl K a).stop i H ∧ D.nx σ H) ∨ ((Itl K a).go i H ∧ ∃ N : St → Hp → Prop, (∀ σ' H', N σ' H' → ∃ m', m' < m ∧ W (i + 1) m' σ' H') ∧ ∀ x H', (Itl K a).yld i H x H' → g x σ H' fun σ2 H2 => tb { D with nx := N, ct := N, bk := D.nx } σ2 H2) := by
  refine ⟨fun i m σ H => m = xs.length - i ∧ i ≤ xs.length ∧ Pv i σ H, ⟨xs.length, by simp, Nat.zero_le _, h0⟩, ?_⟩
  rintro i m σ H ⟨rfl, hi, p⟩
  have q := hl i σ H hi p
  by_cases hlt : i < xs.length
  · refine .inr ⟨⟨xs, xs[i], q, by simp [hlt]⟩, Pv (i + 1), fun σ' H' p' => ⟨xs.length - (i + 1), by omega, rfl, hlt, p'⟩, fun x H' y => ?_⟩
    obtain ⟨e, y⟩ := y
    subst e
    exact hs i x σ _ (y xs q) p
  · have e : i = xs.length := by omega
    subst e
    exact .inl ⟨⟨xs, q, Nat.le_refl _⟩, hd σ H p⟩
theorem for_tup {K : PySem.W.Frag} {a : Addr} {xs : List V} {g : TG} {tb : TS} {D : Ends} {σ : St} {H : Hp} (Pv : Nat → St → Hp → Prop) (h0 : Pv 0 σ H) (hl : ∀ i σ H, i ≤ xs.length → Pv i σ H → SqT K H a xs)
    (hs : ∀ i x σ H, xs[i]? = some x → Pv i σ H → g x σ H fun σ2 H2 => tb { D with nx := Pv (i + 1), ct := Pv (i + 1), bk := D.nx } σ2 H2) (hd : ∀ σ H, Pv xs.length σ H → D.nx σ H) :
    ∃ W : Nat → Nat → St → Hp → Prop, (∃ m, W 0 m σ H) ∧ ∀ i m σ H, W i m σ H →
      ((Itt K a).stop i H ∧ D.nx σ H) ∨ ((Itt K a).go i H ∧ ∃ N : St → Hp → Prop, (∀ σ' H', N σ' H' → ∃ m', m' < m ∧ W (i + 1) m' σ' H') ∧ ∀ x H', (Itt K a).yld i H x H' → g x σ H' fun σ2 H2 => tb { D with nx := N, ct := N, bk := D.nx } σ2 H2) := by
  refine ⟨fun i m σ H => m = xs.length - i ∧ i ≤ xs.length ∧ Pv i σ H, ⟨xs.length, by simp, Nat.zero_le _, h0⟩, ?_⟩
  rintro i m σ H ⟨rfl, hi, p⟩
  have q := hl i σ H hi p
  by_cases hlt : i < xs.length
  · refine .inr ⟨⟨xs, xs[i], q, by simp [hlt]⟩, Pv (i + 1), fun σ' H' p' => ⟨xs.length - (i + 1), by omega, rfl, hlt, p'⟩, fun x H' y => ?_⟩
    obtain ⟨e, y⟩ := y
    subst e
    exact hs i x σ _ (y xs q) p
  · have e : i = xs.length := by omega
    subst e
    exact .inl ⟨⟨xs, q, Nat.le_refl _⟩, hd σ H p⟩
theorem for_range {lo : Int} {n : Nat} {g : TG} {tb : TS} {D : Ends} {σ : St} {H : Hp} (Pv : Nat → St → Hp → Prop) (h0 : Pv 0 σ H)
    (hs : ∀ i σ H, i < n → Pv i σ H → g (.int (lo + i)) σ H fun σ2 H2 => tb { D with nx := Pv (i + 1), ct := Pv (i + 1), bk := D.nx } σ2 H2) (hd : ∀ σ H, Pv n σ H → D.nx σ H) :
    ∃ W : Nat → Nat → St → Hp → Prop, (∃ m, W 0 m σ H) ∧ ∀ i m σ H, W i m σ H →
      ((Itr lo n).stop i H ∧ D.nx σ H) ∨ ((Itr lo n).go i H ∧ ∃ N : St → Hp → Prop, (∀ σ' H', N σ' H' → ∃ m', m' < m ∧ W (i + 1) m' σ' H') ∧ ∀ x H', (Itr lo n).yld i H x H' → g x σ H' fun σ2 H2 => tb { D with nx := N, ct := N, bk := D.nx } σ2 H2) := by
  refine ⟨fun i m σ H => m = n - i ∧ i ≤ n ∧ Pv i σ H, ⟨n, by simp, Nat.zero_le _, h0⟩, ?_⟩
  rintro i m σ H ⟨rfl, hi, p⟩
  by_cases hlt : i < n
  · refine .inr ⟨hlt, Pv (i + 1), fun σ' H' p' => ⟨n - (i + 1), by omega, rfl, hlt, p'⟩, fun x H' y => ?_⟩
    obtain ⟨e, y⟩ := y
    subst e y
    exact hs i σ _ hlt p
  · have e : i = n := by omega
    subst e
    exact .inl ⟨Nat.le_refl _, hd σ H p⟩
end L2
namespace L2
open PySem PySem.Spec PyProof.Rows
abbrev R2 := V → V → Hp → VK → Prop
def OpR (X : Cx) (f : Value → Value → Sem Value) (r : R2) : Prop :=
  ∀ (pins : List (Addr × Obj)) (s : Shared) (σ : St) (H : Hp) (x y : V) (v u : Value) (Q : VK), Inv X pins σ H s → RelV x v → RelV y u → r x y H Q →
    wpAny (model X.prog X.w) X.A (f v u) (EP X pins σ Q) X.xe s
def UnR (X : Cx) (f : Value → Sem Value) (r : V → Hp → VK → Prop) : Prop :=
  ∀ (pins : List (Addr × Obj)) (s : Shared) (σ : St) (H : Hp) (x : V) (v : Value) (Q : VK), Inv X pins σ H s → RelV x v → r x H Q →
    wpAny (model X.prog X.w) X.A (f v) (EP X pins σ Q) X.xe s
def CallR (X : Cx) (f : Value) (r : List V → Hp → VK → Prop) : Prop :=
  ∀ (pins : List (Addr × Obj)) (s : Shared) (σ : St) (H : Hp) (xs : List V) (us : List Value) (Q : VK), Inv X pins σ H s → Vals xs us → r xs H Q →
    wpAny (model X.prog X.w) X.A (call f us) (EP X pins σ Q) X.xe s
def tOp (r : R2) (ta tb : TE) : TE := fun σ H Q => ta σ H fun x H1 => tb σ H1 fun y H2 => r x y H2 Q
def tUn (r : V → Hp → VK → Prop) (ta : TE) : TE := fun σ H Q => ta σ H fun x H1 => r x H1 Q
def rI (C : Int → Int → Prop) (g : Int → Int → V) : R2 := fun x y H Q => ∃ i j, x = .int i ∧ y = .int j ∧ C i j ∧ Q (g i j) H
def rI0 (g : Int → Int → V) : R2 := fun x y H Q => ∃ i j, x = .int i ∧ y = .int j ∧ Q (g i j) H
def rU (g : Int → V) : V → Hp → VK → Prop := fun x H Q => ∃ i, x = .int i ∧ Q (g i) H
section
variable {X : Cx} {a b c : Expr} {ta tb tc : TE} {pos : Pos}
theorem binT (ha : PE X a ta) (hb : PE X b tb) {pins : List (Addr × Obj)} {s : Shared} {σ : St} {H : Hp} {R : V → V → Hp → Prop} (I : Inv X pins σ H s)
    (h : ta σ H fun x H1 => tb σ H1 fun y H2 => R x y H2) {Q : Value → Shared → Prop} {f : Value → Value → Sem Value}
    (hf : ∀ v u s2 x y H2, Inv X pins σ H2 s2 → RelV x v → RelV y u → R x y H2 → wpAny (model X.prog X.w) X.A (f v u) Q X.xe s2) :
    wpAny (model X.prog X.w) X.A (eval a X.env) (fun v s₁ => wpAny (model X.prog X.w) X.A (eval b X.env) (fun u s₂ => wpAny (model X.prog X.w) X.A (f v u) Q X.xe s₂) X.xe s₁) X.xe s := by
  refine thnE (ha pins s σ H _ I h) fun v s1 x H1 I1 r1 q1 => ?_
  refine thnE (hb pins s1 σ H1 _ I1 q1) fun u s2 y H2 I2 r2 q2 => ?_
  exact hf v u s2 x y H2 I2 r1 r2 q2
theorem pe_op {op : Operator} {r : R2} (ho : OpR X (binaryOp op) r) (ha : PE X a ta) (hb : PE X b tb) : PE X (.BinOp a op b pos) (tOp r ta tb) := by
  intro pins s σ H Q I h
  exact wpAny_BinOp (binT ha hb I h fun v u s2 x y H2 I2 rx ry q => ho pins s2 σ H2 x y v u Q I2 rx ry q)
theorem pe_un {op : UnaryOp} {r : V → Hp → VK → Prop} (ho : UnR X (unaryOp op) r) (ha : PE X a ta) : PE X (.UnaryOp op a pos) (tUn r ta) := by
  intro pins s σ H Q I h
  exact UnaryOp_ (thnE (ha pins s σ H _ I h) fun v s1 x H1 I1 r1 q1 => ho pins s1 σ H1 x v Q I1 r1 q1)
theorem opI {f : Value → Value → Sem Value} {C : Int → Int → Prop} {g : Int → Int → Int}
    (rule : ∀ (i j : Int) (t u : Tok) (s : Shared) (Q : Value → Shared → Prop) (E : Value → Shared → Prop), C i j → Q (.int (g i j) s.toks) { s with toks := s.toks + 1 } → wpAny (model X.prog X.w) X.A (f (.int i t) (.int j u)) Q E s) :
    OpR X f (rI C fun i j => .int (g i j)) := by
  intro pins s σ H x y v u Q I rx ry h
  obtain ⟨i, j, rfl, rfl, hc, q⟩ := h
  obtain ⟨t, rfl⟩ := rx
  obtain ⟨t', rfl⟩ := ry
  exact rule i j t t' s _ _ hc ⟨.int (g i j), H, I.tok _, ⟨_, rfl⟩, q⟩
theorem opI0 {f : Value → Value → Sem Value} {g : Int → Int → Int}
    (rule : ∀ (i j : Int) (t u : Tok) (s : Shared) (Q : Value → Shared → Prop) (E : Value → Shared → Prop), Q (.int (g i j) s.toks) { s with toks := s.toks + 1 } → wpAny (model X.prog X.w) X.A (f (.int i t) (.int j u)) Q E s) :
    OpR X f (rI0 fun i j => .int (g i j)) := by
  intro pins s σ H x y v u Q I rx ry h
  obtain ⟨i, j, rfl, rfl, q⟩ := h
  obtain ⟨t, rfl⟩ := rx
  obtain ⟨t', rfl⟩ := ry
  exact rule i j t t' s _ _ ⟨.int (g i j), H, I.tok _, ⟨_, rfl⟩, q⟩
theorem opB0 {f : Value → Value → Sem Value} {g : Int → Int → Bool}
    (rule : ∀ (i j : Int) (t u : Tok) (s : Shared) (Q : Value → Shared → Prop) (E : Value → Shared → Prop), Q (.bool (g i j)) s → wpAny (model X.prog X.w) X.A (f (.int i t) (.int j u)) Q E s) :
    OpR X f (rI0 fun i j => .bl (g i j)) := by
  intro pins s σ H x y v u Q I rx ry h
  obtain ⟨i, j, rfl, rfl, q⟩ := h
  obtain ⟨t, rfl⟩ := rx
  obtain ⟨t', rfl⟩ := ry
  exact rule i j t t' s _ _ ⟨.bl (g i j), H, I, rfl, q⟩
def CPow (i j : Int) : Prop := 0 ≤ j ∧ j ≤ 1000000 ∧ i.natAbs < 2 ^ 64
def CMul (i j : Int) : Prop := (-(2 ^ 64) < i ∧ i < 2 ^ 64) ∨ (-(2 ^ 64) < j ∧ j < 2 ^ 64)
theorem CMul.ok {i j : Int} (h : CMul i j) : IntMulOk i j := by
  rcases h with ⟨h1, h2⟩ | ⟨h1, h2⟩
  · exact .of_left (intBits_le_64 h1 h2)
  · exact .of_right (intBits_le_64 h1 h2)
theorem op_add : OpR X (binaryOp .Add) (rI0 fun i j => .int (i + j)) := opI0 fun _ _ _ _ _ _ _ q => add_int q
theorem op_sub : OpR X (binaryOp .Sub) (rI0 fun i j => .int (i - j)) := opI0 fun _ _ _ _ _ _ _ q => sub_int q
theorem op_mul : OpR X (binaryOp .Mult) (rI CMul fun i j => .int (i * j)) := opI fun _ _ _ _ _ _ _ hc q => mul_int q hc.ok
theorem op_mod : OpR X (binaryOp .Mod) (rI (fun _ j => 0 < j) fun i j => .int (i % j)) := opI fun i j _ _ _ _ _ hc q => by
  have h1 : (0 : Int) < j := hc
  exact mod_int' (by omega) (by rw [Int.fmod_eq_emod_of_nonneg i (by omega)]; exact q)
theorem op_modN : OpR X (binaryOp .Mod) (rI (fun _ j => j ≠ 0) fun i j => .int (i.fmod j)) := opI fun _ _ _ _ _ _ _ hc q => mod_int' hc q
theorem op_pow : OpR X (binaryOp .Pow) (rI CPow fun i j => .int (i ^ j.toNat)) := opI fun _ _ _ _ _ _ _ hc q => pow_int_small hc.1 hc.2.1 hc.2.2 q
theorem unI {f : Value → Sem Value} {g : Int → Int}
    (rule : ∀ (i : Int) (t : Tok) (s : Shared) (Q : Value → Shared → Prop) (E : Value → Shared → Prop), Q (.int (g i) s.toks) { s with toks := s.toks + 1 } → wpAny (model X.prog X.w) X.A (f (.int i t)) Q E s) :
    UnR X f (rU fun i => .int (g i)) := by
  intro pins s σ H x v Q I rx h
  obtain ⟨i, rfl, q⟩ := h
  obtain ⟨t, rfl⟩ := rx
  exact rule i t s _ _ ⟨.int (g i), H, I.tok _, ⟨_, rfl⟩, q⟩
theorem un_neg : UnR X (unaryOp .USub) (rU fun i => .int (-i)) := unI fun _ _ _ _ _ q => neg_int q
end
def scal : V → V → Bool
  | .non, .non => true | .non, .int _ => true | .int _, .non => true | .non, .bl _ => true | .bl _, .non => true | .non, .str _ => true | .str _, .non => true
  | .int _, .int _ => true | .bl _, .bl _ => true | .str _, .str _ => true | .byt _, .byt _ => true
  | .int _, .str _ => true | .str _, .int _ => true | .bl _, .str _ => true | .str _, .bl _ => true
  | _, _ => false
def rEq : R2 := fun x y H Q => scal x y = true ∧ Q (.bl (decide (x = y))) H
def rNe : R2 := fun x y H Q => scal x y = true ∧ Q (.bl (!decide (x = y))) H
theorem dec_int {i j : Int} : decide (V.int i = V.int j) = (i == j) := by
  rw [Bool.eq_iff_iff]
  simp
theorem dec_bl {i j : Bool} : decide (V.bl i = V.bl j) = (i == j) := by
  rw [Bool.eq_iff_iff]
  simp
theorem dec_str {i j : Str} : decide (V.str i = V.str j) = (i == j) := by
  rw [Bool.eq_iff_iff]
  simp
theorem dec_byt {i j : Array UInt8} : decide (V.byt i = V.byt j) = (i.toList == j.toList) := by
  rw [Bool.eq_iff_iff]
  cases i
  cases j
  simp
section
variable {X : Cx} {a b c : Expr} {ta tb tc : TE} {pos : Pos}
theorem fin_bl {pins : List (Addr × Obj)} {σ : St} {H : Hp} {s : Shared} {Q : VK} {k k' : Bool} (I : Inv X pins σ H s) (q : Q (.bl k) H) (e : k = k') : EP X pins σ Q (.bool k') s := by
  subst e
  exact ⟨.bl k, H, I, rfl, q⟩
theorem op_eq : OpR X (compareOp .Eq) rEq := by
  intro pins s σ H x y v u Q I rx ry h
  obtain ⟨hs, q⟩ := h
  cases x with
  | non =>
    cases rx
    cases y with
    | non => cases ry; exact PySem.EqNone.eq_none_none (fin_bl I q (by simp))
    | bl j => cases ry; exact PySem.EqNone.eq_none_bool (fin_bl I q (by simp))
    | int j => obtain ⟨t', rfl⟩ := ry; exact PySem.EqNone.eq_none_int (fin_bl I q (by simp))
    | str j => obtain ⟨t', rfl⟩ := ry; exact PySem.EqNone.eq_none_str (fin_bl I q (by simp))
    | _ => exact absurd (show false = true from hs) Bool.false_ne_true
  | bl i =>
    cases rx
    cases y with
    | non => cases ry; exact PySem.EqNone.eq_bool_none (fin_bl I q (by simp))
    | bl j => cases ry; exact eq_bool (fin_bl I q dec_bl)
    | str j => obtain ⟨t', rfl⟩ := ry; exact PySem.EqMixed.eq_bool_str (fin_bl I q (by simp))
    | _ => exact absurd (show false = true from hs) Bool.false_ne_true
  | int i =>
    obtain ⟨t, rfl⟩ := rx
    cases y with
    | non => cases ry; exact PySem.EqNone.eq_int_none (fin_bl I q (by simp))
    | int j => obtain ⟨t', rfl⟩ := ry; exact eq_int (fin_bl I q dec_int)
    | str j => obtain ⟨t', rfl⟩ := ry; exact PySem.EqMixed.eq_int_str (fin_bl I q (by simp))
    | _ => exact absurd (show false = true from hs) Bool.false_ne_true
  | str i =>
    obtain ⟨t, rfl⟩ := rx
    cases y with
    | non => cases ry; exact PySem.EqNone.eq_str_none (fin_bl I q (by simp))
    | bl j => cases ry; exact PySem.EqMixed.eq_str_bool (fin_bl I q (by simp))
    | int j => obtain ⟨t', rfl⟩ := ry; exact PySem.EqMixed.eq_str_int (fin_bl I q (by simp))
    | str j => obtain ⟨t', rfl⟩ := ry; exact eq_str (fin_bl I q dec_str)
    | _ => exact absurd (show false = true from hs) Bool.false_ne_true
  | byt i =>
    obtain ⟨t, rfl⟩ := rx
    cases y with
    | byt j => obtain ⟨t', rfl⟩ := ry; exact PySem.W.eq_bytes (fin_bl I q dec_byt)
    | _ => exact absurd (show false = true from hs) Bool.false_ne_true
  | _ => cases y <;> exact absurd (show false = true from hs) Bool.false_ne_true
theorem op_ne : OpR X (compareOp .NotEq) rNe := by
  intro pins s σ H x y v u Q I rx ry h
  obtain ⟨hs, q⟩ := h
  cases x with
  | non =>
    cases rx
    cases y with
    | non => cases ry; exact PySem.EqNone.ne_none_none (fin_bl I q (by simp))
    | bl j => cases ry; exact PySem.EqNone.ne_none_bool (fin_bl I q (by simp))
    | int j => obtain ⟨t', rfl⟩ := ry; exact PySem.EqNone.ne_none_int (fin_bl I q (by simp))
    | str j => obtain ⟨t', rfl⟩ := ry; exact PySem.EqNone.ne_none_str (fin_bl I q (by simp))
    | _ => exact absurd (show false = true from hs) Bool.false_ne_true
  | bl i =>
    cases rx
    cases y with
    | non => cases ry; exact PySem.EqNone.ne_bool_none (fin_bl I q (by simp))
    | bl j => cases ry; exact ne_bool (fin_bl I q (congrArg not dec_bl))
    | str j => obtain ⟨t', rfl⟩ := ry; exact PySem.EqMixed.ne_bool_str (fin_bl I q (by simp))
    | _ => exact absurd (show false = true from hs) Bool.false_ne_true
  | int i =>
    obtain ⟨t, rfl⟩ := rx
    cases y with
    | non => cases ry; exact PySem.EqNone.ne_int_none (fin_bl I q (by simp))
    | int j => obtain ⟨t', rfl⟩ := ry; exact ne_int (fin_bl I q (congrArg not dec_int))
    | str j => obtain ⟨t', rfl⟩ := ry; exact PySem.EqMixed.ne_int_str (fin_bl I q (by simp))
    | _ => exact absurd (show false = true from hs) Bool.false_ne_true
  | str i =>
    obtain ⟨t, rfl⟩ := rx
    cases y with
    | non => cases ry; exact PySem.EqNone.ne_str_none (fin_bl I q (by simp))
    | bl j => cases ry; exact PySem.EqMixed.ne_str_bool (fin_bl I q (by simp))
    | int j => obtain ⟨t', rfl⟩ := ry; exact PySem.EqMixed.ne_str_int (fin_bl I q (by simp))
    | str j => obtain ⟨t', rfl⟩ := ry; exact ne_str (fin_bl I q (congrArg not dec_str))
    | _ => exact absurd (show false = true from hs) Bool.false_ne_true
  | byt i =>
    obtain ⟨t, rfl⟩ := rx
    cases y with
    | byt j => obtain ⟨t', rfl⟩ := ry; exact PySem.W.ne_bytes (fin_bl I q (congrArg not dec_byt))
    | _ => exact absurd (show false = true from hs) Bool.false_ne_true
  | _ => cases y <;> exact absurd (show false = true from hs) Bool.false_ne_true
theorem op_lt : OpR X (compareOp .Lt) (rI0 fun i j => .bl (decide (i < j))) := opB0 fun _ _ _ _ _ _ _ q => lt_int q
theorem op_gt : OpR X (compareOp .Gt) (rI0 fun i j => .bl (decide (j < i))) := opB0 fun _ _ _ _ _ _ _ q => gt_int q
theorem nomark (b : Expr) {op : CmpOp} (h : op ≠ .In := by decide) (h2 : op ≠ .NotIn := by decide) : behindInMarks op b = false := by
  have e1 : (op == CmpOp.In) = false := by cases op <;> first | rfl | exact absurd rfl h
  have e2 : (op == CmpOp.NotIn) = false := by cases op <;> first | rfl | exact absurd rfl h2
  cases b <;> simp [behindInMarks, e1, e2]
theorem pe_cmpR {op : CmpOp} {r : R2} (ho : OpR X (compareOp op) r) (ha : PE X a ta) (hb : PE X b tb) (hm : behindInMarks op b = false) : PE X (.Compare a [op] [b] pos) (tOp r ta tb) := by
  intro pins s σ H Q I h
  exact wpAny_Compare1 (binT ha hb I h fun v u s2 x y H2 I2 rx ry q => ho pins s2 σ H2 x y v u Q I2 rx ry q) hm
def tTest (t : TE) : TT := fun σ H Q => t σ H fun x H' => ∃ k, x = .bl k ∧ Q k H'
theorem pt_cmpR {op : CmpOp} {r : R2} (ho : OpR X (compareOp op) r) (ha : PE X a ta) (hb : PE X b tb) (hm : behindInMarks op b = false) : PT X (.Compare a [op] [b] pos) (tTest (tOp r ta tb)) := by
  intro pins s σ H Q I h
  refine wpAny_isTrue_Compare1 (thnE (ha pins s σ H _ I h) fun v s1 x H1 I1 r1 q1 => thnE (hb pins s1 σ H1 _ I1 q1) fun u s2 y H2 I2 r2 q2 =>
    thnE (ho pins s2 σ H2 x y v u _ I2 r1 r2 q2) fun c s3 z H3 I3 r3 ⟨k, e, q3⟩ => ?_) hm
  subst e
  cases r3
  exact wpAny_truthy_bool ⟨H3, I3, q3⟩
def tChain (r r' : R2) (ta tb tc : TE) : TE := fun σ H Q => ta σ H fun x H1 => tb σ H1 fun y H2 => r x y H2 fun z H3 => ∃ k, z = .bl k ∧
  (if k = true then tc σ H3 fun w' H4 => r' y w' H4 Q else Q (.bl false) H3)
theorem line63 : (sizeLine : Nat) < 2 ^ 63 := by rw [sizeLine_eq]; decide
theorem vals1 {x : V} {us : List Value} (r : Vals [x] us) : ∃ u, us = [u] ∧ RelV x u := by
  cases r with
  | cons r1 r2 => cases r2; exact ⟨_, rfl, r1⟩
theorem vals2 {x y : V} {us : List Value} (r : Vals [x, y] us) : ∃ u w', us = [u, w'] ∧ RelV x u ∧ RelV y w' := by
  cases r with
  | cons r1 r2 =>
    cases r2 with
    | cons r3 r4 => cases r4; exact ⟨_, _, rfl, r1, r3⟩
theorem call_abs : CallR X (.builtin "abs") (fun xs H Q => ∃ i, xs = [.int i] ∧ Q (.int (if i < 0 then -i else i)) H) := by
  intro pins s σ H xs us Q I r h
  obtain ⟨i, rfl, q⟩ := h
  obtain ⟨u, rfl, t, rfl⟩ := vals1 r
  exact call_abs_int fun u tk => ⟨.int (if i < 0 then -i else i), H, I.tok _, ⟨_, rfl⟩, q⟩
theorem call_int1 : CallR X (.type "int") (fun xs H Q => (∃ i, xs = [.int i] ∧ Q (.int i) H) ∨ ∃ k, xs = [.bl k] ∧ Q (.int (if k then 1 else 0)) H) := by
  intro pins s σ H xs us Q I r h
  rcases h with ⟨i, rfl, q⟩ | ⟨k, rfl, q⟩
  · obtain ⟨u, rfl, t, rfl⟩ := vals1 r
    exact call_int_int ⟨.int i, H, I, ⟨_, rfl⟩, q⟩
  · obtain ⟨u, rfl, r1⟩ := vals1 r
    cases r1
    exact call_int_bool ⟨.int (if k then 1 else 0), H, I.tok _, ⟨_, rfl⟩, q⟩
end
end L2
namespace L2
open PySem PySem.Spec PyProof.Rows
structure ObjM (h : Heap) (x dx C : Addr) (mA : Str → Option Value) : Prop where
  obj : h.get? x = some (PySem.W.instObj C dx)
  ns : h.Ns1 dx mA
  ne : dx ≠ x
theorem lookIn_ns {h : Heap} {dx : Addr} {mA : Str → Option Value} (n : h.Ns1 dx mA) : ∃ od, h.get? dx = some od ∧ ∀ name, PySem.W.lookIn name od = some (mA name) := by
  obtain ⟨o, es, ep, ho, hd, hk, _, hm⟩ := n
  refine ⟨o, ho, fun name => ?_⟩
  have e := hm name
  unfold nsFind findBy at e
  rw [← Array.find?_toList] at e
  unfold PySem.W.lookIn
  rw [hd]
  dsimp only
  split
  · rename_i y q
    rw [q] at e
    exact congrArg some e
  · rename_i q
    rw [q] at e
    have a : es.toList.any (·.refKey) = false := by
      rw [List.any_eq_false]
      intro y hy
      obtain ⟨z, t, hkey⟩ := hk y (Array.mem_toList_iff.mp hy)
      simp [DictEntry.refKey, hkey]
    have a' : ¬ es.toList.any (·.refKey) = true := by rw [a]; exact Bool.false_ne_true
    rw [if_neg a']
    exact congrArg some e
theorem ObjM.look {h : Heap} {x dx C : Addr} {mA : Str → Option Value} (I : ObjM h x dx C mA) : ∃ od, PySem.W.InstAt h x (PySem.W.instObj C dx) C (some od) ∧ ∀ name, PySem.W.lookIn name od = some (mA name) :=
  let ⟨od, ho, hl⟩ := lookIn_ns I.ns
  ⟨od, ⟨I.obj, rfl, rfl, ho⟩, hl⟩
section
variable {prog : Program} {w : World} {A : Around} {E : Value → Shared → Prop} {s : Shared} {K : PySem.W.Frag} {x dx C f : Addr} {mA : Str → Option Value} {name : Str} {v : Value}
end
def putF (f : Str) (v : V) : List (Str × V) → List (Str × V)
  | [] => [(f, v)]
  | (g, x) :: r => if g = f then (g, v) :: r else (g, x) :: putF f v r
section
variable {P : Program} {w : World} {H H' : Hp} {h h' : Heap} {a C dx : Addr} {fs fs' : List (Str × V)}
theorem ins_get (hok : HOk P w H h) (e : H a = some (.ins C dx fs)) : ∃ mA, ObjM h a dx C mA ∧ (∀ f, RelO (fs.lookup f) (mA f)) ∧ PySem.Within mA (fs.map (·.1)) ∧ fs.length ≤ 1000 ∧ H dx = some (.own a) := by
  obtain ⟨d, z, ne, ob, mA, n, r, q⟩ := (show ObjOk P w H h a (.ins C dx fs) from hok a _ e)
  exact ⟨mA, ⟨ob, n, ne⟩, r, q, z, d⟩
end
structure Cls (K : PySem.W.Frag) (C : Addr) : Prop where
  pg : PySem.W.plainGet K C Str.empty = true
  hd : PySem.W.hasDictIn K C = true
  po : PySem.W.plainOver K C = true
  sa : PySem.W.findIn K (.ref C) "__setattr__" = some (some (.builtin "object.__setattr__"))
theorem Cls.get {K : PySem.W.Frag} {C : Addr} (c : Cls K C) (f : Str) : PySem.W.plainGet K C f = true := c.pg
def NoAttr (K : PySem.W.Frag) (C : Addr) (f : Str) : Prop := PySem.W.findIn K (.ref C) f = some none
section
variable {X : Cx} {pins : List (Addr × Obj)} {σ : St} {H : Hp} {s : Shared} {a C dx : Addr} {fs : List (Str × V)} {f : Str} {v : V} {A : Around} {E : Value → Shared → Prop}
end
def tFld (K : PySem.W.Frag) (ta : TE) (f : Str) : TE := fun σ H Q => ta σ H fun x H1 => ∃ a C dx fs v, x = .ref a ∧ H1 a = some (.ins C dx fs) ∧ Cls K C ∧ NoAttr K C f ∧ fs.lookup f = some v ∧ Q v H1
def sFld (K : PySem.W.Frag) (ta tv : TE) (f : Str) : TS := fun D σ H => tv σ H fun y H1 => ta σ H1 fun x H2 => ∃ a C dx fs, x = .ref a ∧ H2 a = some (.ins C dx fs) ∧ Cls K C ∧ NoAttr K C f ∧ fs.length < 1000 ∧
  D.nx σ (upd H2 a (.ins C dx (putF f y fs)))
section
variable {X : Cx} {o e value : Expr} {f : Str} {pos pos' tpos : Pos} {ta tv : TE}
end
section
variable {X : Cx} {pins : List (Addr × Obj)} {σ : St} {H : Hp} {s : Shared} {A : Around} {E : Value → Shared → Prop} {Q : Value → Shared → Prop} {c : Value} {b : Bool}
inductive TyOf (K : PySem.W.Frag) (H : Hp) : V → Value → Prop where
  | non : TyOf K H .non (.type "NoneType")
  | bl (x : Bool) : TyOf K H (.bl x) (.type "bool")
  | int (i : Int) : TyOf K H (.int i) (.type "int")
  | str (x : Str) : TyOf K H (.str x) (.type "str")
  | flt (x : UInt64) : TyOf K H (.flt x) (.type "float")
  | lst {a : Addr} {xs : List V} (e : H a = some (.lst xs)) : TyOf K H (.ref a) (.type "list")
  | frz {a : Addr} {o : Obj} {xs : List V} (e : H a = some (.frz o (.lst xs))) : TyOf K H (.ref a) (.type "list")
  | tup {a : Addr} {xs : List V} (e : H a = some (.tup xs)) : TyOf K H (.ref a) (.type "tuple")
  | dK {a : Addr} {kvs : List (Key × V)} (e : H a = some (.dK kvs)) : TyOf K H (.ref a) (.type "dict")
  | dT {a : Addr} {kvs : List (List Key × V)} (e : H a = some (.dT kvs)) : TyOf K H (.ref a) (.type "dict")
  | ins {a C dx : Addr} {fs : List (Str × V)} (e : H a = some (.ins C dx fs)) (cl : Cls K C) (ha : PySem.W.findIn K (.ref C) "__class__" = some (some (.builtin "object.__class__")))
      (hn : PySem.W.specialIn K (.builtin "object.__class__") "__get__" = some (some (.builtin "getset_descriptor.__get__"))) (htk : PySem.W.takesIn K (.builtin "object.__class__") = some true)
      (hm : PySem.W.mroIn K C (.type "object") = some true) : TyOf K H (.ref a) (.ref C)
theorem isinst_ok {x : V} {u t : Value} (I : Inv X pins σ H s) (rx : RelV x u) (ty : TyOf X.K H x t) (e : PySem.W.kitOne X.K t c = some b) (h : ∀ tk, Q (.bool b) { s with toks := tk }) :
    wpAny (model X.prog X.w) A (call (.builtin "isinstance") [u, c]) Q E s := by
  cases ty with
  | non => cases (show u = Value.none from rx); exact PySem.W.kia_one PySem.W.kitx_none I.kIn True.intro e (fun z => nomatch z) h
  | bl y => cases (show u = Value.bool y from rx); exact PySem.W.kia_one PySem.W.kitx_bool I.kIn True.intro e (fun z => nomatch z) h
  | int i => obtain ⟨t, q⟩ := (show ∃ t, u = Value.int i t from rx); cases q; exact PySem.W.kia_one PySem.W.kitx_int I.kIn True.intro e (fun z => nomatch z) h
  | str y => obtain ⟨t, q⟩ := (show ∃ t, u = Value.str y t from rx); cases q; exact PySem.W.kia_one PySem.W.kitx_str I.kIn True.intro e (fun z => nomatch z) h
  | flt y => obtain ⟨t, q⟩ := (show ∃ t, u = Value.float y t from rx); cases q; exact PySem.W.kia_one PySem.W.kitx_float I.kIn True.intro e (fun z => nomatch z) h
  | @lst a xs ea =>
    cases (show u = Value.ref a from rx)
    obtain ⟨_, _, n, _, h1⟩ := (show ObjOk X.prog X.w H s.heap a (.lst xs) from I.hok a _ ea)
    exact PySem.W.kia_one PySem.W.kitx_list I.kIn ⟨_, h1, rfl⟩ e (fun z => nomatch z) h
  | @frz a ob xs ea =>
    cases (show u = Value.ref a from rx)
    obtain ⟨_, _, _, n, _, h1⟩ := (show ObjOk X.prog X.w H s.heap a (.frz ob (.lst xs)) from I.hok a _ ea)
    exact PySem.W.kia_one PySem.W.kitx_list I.kIn ⟨_, h1, rfl⟩ e (fun z => nomatch z) h
  | @tup a xs ea =>
    cases (show u = Value.ref a from rx)
    obtain ⟨_, _, _, p⟩ := (show ObjOk X.prog X.w H s.heap a (.tup xs) from I.hok a _ ea)
    obtain ⟨o, h1, h2, _⟩ := p
    exact PySem.W.kia_one PySem.W.kitx_tuple I.kIn ⟨o, h1, h2⟩ e (fun z => nomatch z) h
  | @dK a kvs ea =>
    cases (show u = Value.ref a from rx)
    obtain ⟨_, _, vs, _, p⟩ := (show ObjOk X.prog X.w H s.heap a (.dK kvs) from I.hok a _ ea)
    obtain ⟨o, es, ep, h1, h2, _⟩ := p
    exact PySem.W.kia_one PySem.W.kitx_dict I.kIn ⟨o, h1, h2.1⟩ e (fun z => nomatch z) h
  | @dT a kvs ea =>
    cases (show u = Value.ref a from rx)
    obtain ⟨_, _, xs, _, o, es, ep, h1, h2, _⟩ := (show ObjOk X.prog X.w H s.heap a (.dT kvs) from I.hok a _ ea)
    exact PySem.W.kia_one PySem.W.kitx_dict I.kIn ⟨o, h1, h2.1⟩ e (fun z => nomatch z) h
  | @ins a C dx fs ea cl ha hn htk hm =>
    cases (show u = Value.ref a from rx)
    obtain ⟨mA, O, _⟩ := ins_get I.hok ea
    obtain ⟨od, J, _⟩ := O.look
    exact PySem.W.kia_one (PySem.W.kitx_own (cl.get _) cl.hd ha hn htk hm) I.kIn J e (fun z => nomatch z) h
end
end L2
namespace L2
open PySem PySem.Spec PyProof.Rows
structure Room (k : Nat) (A : Around) : Prop where
  hd : A.handled = none
  dp : A.depth + 3 * k + 5 < recursionLimit
  un : A.units + 16 * k + 200 < cLine
theorem Room.mono {j k : Nat} {A : Around} (r : Room k A) (h : j ≤ k) : Room j A := ⟨r.hd, by have := r.dp; omega, by have := r.un; omega⟩
theorem Room.deeper {k : Nat} {A : Around} (r : Room (k + 1) A) (env : Env) : Room k (A.deeper env) :=
  ⟨r.hd, by have := r.dp; show A.depth + 1 + 3 * k + 5 < _; omega, by have := r.un; show A.units + 3 + 16 * k + 200 < _; omega⟩
theorem Room.depth {k : Nat} {A : Around} (r : Room k A) : A.depth < recursionLimit := by have := r.dp; omega
theorem Room.units {k : Nat} {A : Around} (r : Room k A) : A.units + 64 < cLine := by have := r.un; omega
def tNil : TA := fun _ H Q => Q [] H
def tCons (ta : TE) (tr : TA) : TA := fun σ H Q => ta σ H fun x H1 => tr σ H1 fun xs H2 => Q (x :: xs) H2
section
variable {X : Cx} {e : Expr} {es : List Expr} {te : TE} {t : TA} {pos : Pos}
theorem pa_nil : PA X [] tNil := fun _ _ _ _ H Q I h => Calls.spliced_nil ⟨[], H, I, .nil, h⟩
theorem pa_cons (ha : PE X e te) (hr : PA X es t) (hs : starEach (e :: es) X.env = (false, eval e X.env) :: starEach es X.env := by rfl) : PA X (e :: es) (tCons te t) := by
  intro pos pins s σ H Q I h
  rw [hs]
  show wpAny _ _ (spliced ((false, eval e X.env) :: backTo pos (starEach es X.env))) _ _ s
  refine Calls.spliced_cons (thnE (ha pins s σ H _ I h) fun u s1 x H1 I1 r1 q1 => ?_)
  exact thnA (hr pos pins s1 σ H1 _ I1 q1) fun us s2 xs H2 I2 r2 q2 => ⟨x :: xs, H2, I2, .cons r1 r2, q2⟩
def tTup (t : TA) : TE := fun σ H Q => t σ H fun xs H1 => xs.length ≤ sizeLine ∧ ∀ p, H1 p = none → Q (.ref p) (upd H1 p (.tup xs))
def tLst (t : TA) : TE := fun σ H Q => t σ H fun xs H1 => xs.length ≤ sizeLine ∧ ∀ p, H1 p = none → Q (.ref p) (upd H1 p (.lst xs))
theorem pe_tup {x1} (h : PA X es t) : PE X (.Tuple es x1 pos) (tTup t) := by
  intro pins s σ H Q I hq
  refine wpAny_Tuple_spliced (thnA (h pos pins s σ H _ I hq) fun us s1 xs H1 I1 r ⟨z, q⟩ => ⟨by rw [← r.length]; exact z, ?_⟩)
  have hf : H1 s1.heap.objs.size = none := I1.hok.fresh (Nat.le_refl _)
  refine ⟨.ref s1.heap.objs.size, upd H1 s1.heap.objs.size (.tup xs), I1.laid (t' := s1.toks) (fun b u e => Heap.get?_push_of_some _ e) (Nat.le_refl _) ?_, rfl, q _ hf⟩
  exact ⟨z, us, r, ⟨_, Heap.get?_push_size _ rfl, rfl, _, rfl⟩⟩
theorem pe_lst (h : PA X es t) : PE X (.List es pos) (tLst t) := by
  intro pins s σ H Q I hq
  refine wpAny_List_spliced (thnA (h pos pins s σ H _ I hq) fun us s1 xs H1 I1 r ⟨z, q⟩ => ⟨by rw [← r.length]; exact z, ?_⟩)
  have hf : H1 s1.heap.objs.size = none := I1.hok.fresh (Nat.le_refl _)
  refine ⟨.ref s1.heap.objs.size, upd H1 s1.heap.objs.size (.lst xs), I1.laid (t' := s1.toks) (fun b u e => Heap.get?_push_of_some _ e) (Nat.le_refl _) ?_, rfl, q _ hf⟩
  exact ⟨z, us, 0, r, Heap.get?_push_size _ rfl⟩
end
abbrev Sp := List V → Hp → VK → XK → Prop
abbrev CXT := List Env → Hp → Shared → XK → Value → Shared → Prop
structure Env0 (P : Program) (w : World) (K : PySem.W.Frag) (mg : Str → Option Value) (base : Heap) (A : Around) (outer : List Env) (s : Shared) (H : Hp) : Prop where
  frames : A.frames = some outer
  mod : Mod K mg base
  bs : ∀ b o, base.get? b = some o → s.heap.get? b = some o ∧ H b = none
  bsz : base.objs.size ≤ s.heap.objs.size
  funs : s.heap.FunFrames base outer
  frf : ∀ b ∈ frs outer, H b = none
  hok : HOk P w H s.heap
  bare : AllBare s.gens
def CE (outer : List Env) (P : Program) (w : World) (H : Hp) (s : Shared) (Q : VK) (u : Value) (s' : Shared) : Prop :=
  ∃ v H', s'.os = s.os ∧ AllBare s'.gens ∧ Un (frs outer) [] H H' s.heap s'.heap ∧ HOk P w H' s'.heap ∧ RelV v u ∧ Q v H'
def CR (CX : CXT) (outer : List Env) (P : Program) (w : World) (H : Hp) (s : Shared) (Q : VK) (E : XK) (r : Result) (s' : Shared) : Prop :=
  match r with
  | .ok (.ret u) => CE outer P w H s Q u s'
  | .ok _ => False
  | .error e => CX outer H s E e s'
structure FnOk (P : Program) (w : World) (K : PySem.W.Frag) (mg : Str → Option Value) (base : Heap) (CX : CXT) (k : Nat) (f : Addr) (fd : FuncData) (ps : List Str) (sp : Sp) : Prop where
  len : ∀ vs H Q E, sp vs H Q E → vs.length = ps.length
  run : ∀ (A : Around) (outer : List Env) (s : Shared) (H : Hp) (args : Args) (us : List Value) (vs : List V) (Q : VK) (E : XK), Room k A → Env0 P w K mg base A outer s H → BindsTo s fd args (ps.zip us) → Vals vs us → sp vs H Q E →
    codeAny (model P w) A (.call (.ref f) args) (CR CX outer P w H s Q E) s
section
variable {X : Cx} {pins : List (Addr × Obj)} {σ : St} {H : Hp} {s s' : Shared}
theorem Inv.env0 (I : Inv X pins σ H s) : Env0 X.prog X.w X.K X.mg X.base X.A X.stack s H :=
  ⟨I.ok.frames, I.ok.mod, I.bs, Nat.le_trans I.ok.bsz I.sz, I.stack, I.stkFree, I.hok, I.bare⟩
theorem Inv.after {Q : VK} {u : Value} (I : Inv X pins σ H s) (h : CE X.stack X.prog X.w H s Q u s') : EP X pins σ Q u s' := by
  obtain ⟨v, H', os, bare, un, hok, r, q⟩ := h
  obtain ⟨hh, g, d, t, os'⟩ := s'
  obtain rfl : os' = s.os := os
  exact ⟨v, H', I.call (h' := hh) (g' := g) (d' := d) (t' := t) (ch := []) un hok bare (fun b z => absurd z (by simp)), r, q⟩
end
def tCall (sp : Sp) (dvs : List V) (E : XK) (t : TA) : TE := fun σ H Q => t σ H fun vs H1 => sp (vs ++ dvs) H1 Q E
def tMake (C : Addr) (sp : Sp) (dvs : List V) (E : XK) (t : TA) : TE := fun σ H Q => t σ H fun vs H1 => ∀ x dx, H1 x = none → H1 dx = none → dx ≠ x →
  sp (.ref x :: (vs ++ dvs)) (upd (upd H1 dx (.own x)) x (.ins C dx [])) (fun v H2 => v = .non ∧ Q (.ref x) H2) E
def Binds (K : PySem.W.Frag) (fd : FuncData) (ps : List Str) (ds : List Value) : Prop :=
  ∀ (s : Shared) (us : List Value), K.In s.heap → (us ++ ds).length = ps.length → BindsTo s fd ⟨us, []⟩ (ps.zip (us ++ ds))
theorem Binds.all {K : PySem.W.Frag} {fd : FuncData} {ps : List Str} (h : ∀ us : List Value, us.length = ps.length → bindArgs fd ⟨us, []⟩ = pure (ps.zip us)) : Binds K fd ps [] := fun s us _ hl => by
  rw [List.append_nil] at hl ⊢
  exact .of_eq (h us hl)
def Passes (CX : CXT) (X : Cx) (E : XK) : Prop := ∀ (pins : List (Addr × Obj)) (σ : St) (H : Hp) (s : Shared) (e : Value) (s' : Shared), Inv X pins σ H s → CX X.stack H s E e s' → X.xe e s'
section
variable {X : Cx} {CX : CXT} {k : Nat} {f C : Addr} {fd : FuncData} {ps : List Str} {sp : Sp} {dvs : List V} {ds : List Value} {E : XK} {x m : Str} {p pos apos : Pos} {e o : Expr} {es : List Expr} {ta : TE} {t : TA}
theorem run_fn {pins : List (Addr × Obj)} {σ : St} {H : Hp} {s : Shared} {Q : VK} {us : List Value} {vs : List V} (F : FnOk X.prog X.w X.K X.mg X.base CX k f fd ps sp) (hr : Room k X.A) (hb : Binds X.K fd ps ds) (hd : Vals dvs ds) (hx : Passes CX X E)
    (I : Inv X pins σ H s) (r : Vals vs us) (h : sp (vs ++ dvs) H Q E) : wpAny (model X.prog X.w) X.A (call (.ref f) us) (EP X pins σ Q) X.xe s := by
  have r2 : Vals (vs ++ dvs) (us ++ ds) := r.append hd
  have hl : (us ++ ds).length = ps.length := by rw [← r2.length]; exact F.len _ _ _ _ h
  refine wpAny_call (codeAny_mono (F.run X.A X.stack s H ⟨us, []⟩ (us ++ ds) (vs ++ dvs) Q E hr I.env0 (hb s us I.kIn hl) r2 h) fun r s' hq => ?_)
  cases r with
  | error e => exact hx pins σ H s e s' I hq
  | ok fl =>
    cases fl with
    | ret u => exact I.after hq
    | next => exact False.elim hq
    | brk => exact False.elim hq
    | cont => exact False.elim hq
theorem pe_call (F : FnOk X.prog X.w X.K X.mg X.base CX k f fd ps sp) (hr : Room k X.A) (hg : Gl X x) (hm : X.mg x = some (.ref f)) (hk : PySem.W.keepIn X.K (.ref f) = true) (hb : Binds X.K fd ps ds) (hd : Vals dvs ds) (hx : Passes CX X E)
    (ha : PA X (e :: es) t) (hdb : (x == ("__debug__" : Str)) = false := by decide) (he : starEach (e :: es) X.env = (false, eval e X.env) :: starEach es X.env := by rfl) (hpl : (backTo pos (starEach es X.env)).any (·.1) = false := by rfl) :
    PE X (.Call (.Name x p) (e :: es) [] pos) (tCall sp dvs E t) := by
  intro pins s σ H Q I h
  refine wpAny_Call_Name_kw (ld_glob I hg hm ?_ hdb)
  refine PySem.W.callWith_K (h₀ := X.base) I.ok.mod.kin hk (thnA (ha pos pins s σ H _ I h) fun us s1 vs H1 I1 r q => ⟨I1.kIn, ?_⟩) he hpl
  exact run_fn F hr hb hd hx I1 r q
end
section
variable {X : Cx} {CX : CXT} {k : Nat} {f C : Addr} {fd : FuncData} {ps ks : List Str} {sp : Sp} {E : XK} {x m : Str} {p pos apos kpos : Pos} {e o : Expr} {es : List Expr} {kws : List Keyword} {te ta : TE} {t tk : TA} {nm : Option Str}
variable {g : List Value → List Value → List Value} {gV : List V → List V → List V}
end
structure FnScope (N P : List Str) (sc : Scope) : Prop where
  kind : sc.kind = .function
  co : sc.isCoroutine = false
  gen : sc.isGenerator = false
  nd : N.Nodup
  pre : N.take P.length = P
  par : ∀ x ∈ P, sc.names.lookup x = some .local ∨ sc.names.lookup x = some .cell
  nofree : ∀ y ∈ sc.names, y.2 ≠ .free
theorem bindL_out {kindOf : Str → Option NameKind} {x : Str} : ∀ {binds : List (Str × Value)} {m : Str → Option Value}, (∀ v, (x, v) ∉ binds) → bindL kindOf binds m x = m x
  | [], _, _ => rfl
  | (n, v) :: r, m, h => by
    unfold bindL
    rw [bindL_out fun w hw => h w (List.mem_cons_of_mem _ hw)]
    split
    · have : x ≠ n := by rintro rfl; exact h v List.mem_cons_self
      simp [this]
    · rfl
theorem bindC_out {kindOf : Str → Option NameKind} {x : Str} : ∀ {binds : List (Str × Value)} {m : Str → Option Value}, (∀ v, (x, v) ∉ binds) → bindC kindOf binds m x = m x
  | [], _, _ => rfl
  | (n, v) :: r, m, h => by
    unfold bindC
    rw [bindC_out fun w hw => h w (List.mem_cons_of_mem _ hw)]
    split
    · rfl
    · have : x ≠ n := by rintro rfl; exact h v List.mem_cons_self
      simp [this]
theorem bindL_get {kindOf : Str → Option NameKind} {x : Str} {v : Value} : ∀ {P : List Str} {vs : List Value} {i : Nat} {m : Str → Option Value}, P.Nodup → P[i]? = some x → vs[i]? = some v → kindOf x = some .local →
    bindL kindOf (P.zip vs) m x = some v
  | [], _, _, _, _, h, _, _ => by simp at h
  | _ :: _, [], _, _, _, _, h, _ => by simp at h
  | p :: P, w :: vs, 0, m, nd, h1, h2, hk => by
    simp at h1 h2; subst h1; subst h2
    show bindL kindOf ((p, w) :: P.zip vs) m p = _
    unfold bindL
    rw [bindL_out fun v hv => (List.nodup_cons.mp nd).1 (List.of_mem_zip hv).1, if_pos hk]
    simp
  | p :: P, w :: vs, i + 1, m, nd, h1, h2, hk => by
    show bindL kindOf ((p, w) :: P.zip vs) m x = _
    unfold bindL
    exact bindL_get (i := i) (List.nodup_cons.mp nd).2 (by simpa using h1) (by simpa using h2) hk
theorem bindC_get {kindOf : Str → Option NameKind} {x : Str} {v : Value} : ∀ {P : List Str} {vs : List Value} {i : Nat} {m : Str → Option Value}, P.Nodup → P[i]? = some x → vs[i]? = some v → kindOf x ≠ some .local →
    bindC kindOf (P.zip vs) m x = some v
  | [], _, _, _, _, h, _, _ => by simp at h
  | _ :: _, [], _, _, _, _, h, _ => by simp at h
  | p :: P, w :: vs, 0, m, nd, h1, h2, hk => by
    simp at h1 h2; subst h1; subst h2
    show bindC kindOf ((p, w) :: P.zip vs) m p = _
    unfold bindC
    rw [bindC_out fun v hv => (List.nodup_cons.mp nd).1 (List.of_mem_zip hv).1, if_neg hk]
    simp
  | p :: P, w :: vs, i + 1, m, nd, h1, h2, hk => by
    show bindC kindOf ((p, w) :: P.zip vs) m x = _
    unfold bindC
    exact bindC_get (i := i) (List.nodup_cons.mp nd).2 (by simpa using h1) (by simpa using h2) hk
def start (N : List Str) (vs : List V) : St := vs.map some ++ List.replicate (N.length - vs.length) none
def cxOf (CX : CXT) (P : Program) (w : World) (K : PySem.W.Frag) (mg : Str → Option Value) (base : Heap) (N : List Str) (qual : Str) (scope : Scope) (f : Addr) (cd : Value) (A : Around) (outer : List Env) (s : Shared) (H : Hp) (E : XK) : Cx where
  prog := P
  w := w
  K := K
  mg := mg
  base := base
  A := A.deeper (envOfC qual scope s.heap.objs.size f cd)
  N := N
  s₀ := s
  H₀ := H
  env := envOfC qual scope s.heap.objs.size f cd
  outer := outer
  stack := envOfC qual scope s.heap.objs.size f cd :: outer
  ex := []
  calm := true
  fn := fun _ => true
  pn := []
  xe := fun e s' => wpAny (model P w) (A.deeper (envOfC qual scope s.heap.objs.size f cd)) (leaving (envOfC qual scope s.heap.objs.size f cd) e) (fun _ s'' => CX outer H s E e s'') (fun e' s'' => CX outer H s E e' s'') s'
theorem cell_has {sc : Scope} {n : Nat} {x : Str} (h : sc.names.lookup x = some .cell) : ∃ c, (cellsFrom n sc.names []).lookup x = some c := by
  have q := PySem.W.cellsFrom_some sc.names n [] (.inl h)
  exact Option.isSome_iff_exists.mp q
theorem inv_start {CX : CXT} {P : Program} {w : World} {K : PySem.W.Frag} {mg : Str → Option Value} {base : Heap} {N ps : List Str} {qual : Str} {scope : Scope} {f : Addr} {cd : Value} {A : Around} {outer : List Env} {s s1 : Shared} {H : Hp} {E : XK} {us : List Value} {vs : List V}
    (S : FnScope N ps scope) (hd : A.handled = none) (e0 : Env0 P w K mg base A outer s H) (hl : vs.length = ps.length) (r : Vals vs us)
    (x : InCallC s s.heap.objs.size (bindL (envOfC qual scope s.heap.objs.size f cd).kindOf (ps.zip us) fun _ => none) (cellsFrom (s.heap.objs.size + 1) scope.names []) (bindC (envOfC qual scope s.heap.objs.size f cd).kindOf (ps.zip us) fun _ => none) s1) :
    Inv (cxOf CX P w K mg base N qual scope f cd A outer s H E) [] (start N vs) H s1 := by
  have hpl : ps.length ≤ N.length := by have := congrArg List.length S.pre; rw [List.length_take] at this; omega
  obtain ⟨h1, tk, rfl, hk⟩ := x.done
  have noA : ∀ b : Addr, b ∉ (cxOf CX P w K mg base N qual scope f cd A outer s H E).ex := fun b z => absurd (show b ∈ ([] : List Addr) from z) (by simp)
  refine ⟨⟨e0.mod, S.kind, rfl, rfl, Nat.le_refl _, fun y z c h1 h2 => ?_, fun y hy => ?_, fun y c _ h => ?_, fun _ => hd, Around.frames_deeper e0.frames, .inr ⟨rfl, rfl⟩, fun b z => absurd z (noA b), e0.bs, e0.bsz, fun b _ _ => noA b, fun b z => absurd z (noA b), e0.funs, e0.frf⟩,
    rfl, e0.bare, Un.kept hk, ⟨_, x.toInCall.ns, fun i y v h1 h2 h3 => ?_⟩, fun y c h => ⟨_, x.cell y c h⟩, e0.hok.fresh (Nat.le_refl _), fun y c h => ?_, fun p hp => absurd (show p ∈ ([] : List (Addr × Obj)) from hp) (by simp), e0.hok.kept hk, ?_⟩
  · exact name_of_addr x.apart (PySem.mem_of_lookup h1) (PySem.mem_of_lookup h2)
  · have hy : scope.names.lookup y = some .cell ∨ scope.names.lookup y = some .free := hy
    rcases hy with hy | hy
    · exact cell_has hy
    · exact absurd rfl (S.nofree _ (PySem.mem_of_lookup hy))
  · exact Nat.le_of_lt (x.above y c (PySem.mem_of_lookup h))
  · have hi : i < vs.length := by
      unfold start at h2
      by_cases hi : i < vs.length
      · exact hi
      · rw [List.getElem?_append_right (by simpa using hi)] at h2
        rw [List.getElem?_replicate] at h2
        split at h2 <;> cases h2
    have ha : vs[i]? = some v := by
      unfold start at h2
      rw [List.getElem?_append_left (by simpa using hi), List.getElem?_map] at h2
      cases e : vs[i]? with
      | none => rw [e] at h2; cases h2
      | some a => rw [e] at h2; cases h2; rfl
    obtain ⟨u, hu, rv⟩ := r.get ha
    have hp : ps[i]? = some y := by
      rw [← S.pre, List.getElem?_take_of_lt (by omega)]; exact h1
    have ndP : ps.Nodup := by rw [← S.pre]; exact S.nd.sublist (List.take_sublist _ _)
    refine ⟨u, rv, ?_⟩
    rcases S.par y (List.mem_of_getElem? hp) with k | k
    · exact .inl ⟨k, bindL_get ndP hp hu k⟩
    · obtain ⟨c, e⟩ := cell_has (n := s.heap.objs.size + 1) k
      refine .inr ⟨.inl k, c, e, ?_⟩
      have q := x.cell y c e
      rw [bindC_get ndP hp hu (by show scope.names.lookup y ≠ _; rw [k]; decide)] at q
      exact q
  · exact e0.hok.fresh (Nat.le_of_lt (x.above y c (PySem.mem_of_lookup h)))
  · unfold start
    show _ = N.length
    rw [List.length_append, List.length_map, List.length_replicate]
    omega
theorem fn_of {CX : CXT} {P : Program} {w : World} {K : PySem.W.Frag} {mg : Str → Option Value} {base : Heap} {k : Nat} {f : Addr} {name qual : Str} {params : Arguments} {body : List Stmt} {scope : Scope} {dV kV doc pm cdv ct oc : Value} {an od : Option Addr}
    {osl : Array (Option Value)} {N ps : List Str} {sp : Sp} (lk : K.lookup f = some ⟨oc, od, .func (PySem.W.fnOf name qual params body scope dV kV doc pm an cdv ct), osl⟩) (hcd : PySem.W.codeIn K cdv qual = true) (S : FnScope N ps scope)
    (len : ∀ vs H Q E, sp vs H Q E → vs.length = ps.length)
    (hbody : ∀ (A : Around) (outer : List Env) (s : Shared) (H : Hp) (vs : List V) (Q : VK) (E : XK), Room k (A.deeper (envOfC qual scope s.heap.objs.size f cdv)) → sp vs H Q E →
      ∃ t, PSs (cxOf CX P w K mg base N qual scope f cdv A outer s H E) body t ∧ t { nx := fun _ H' => Q .non H', rt := Q } (start N vs) H) :
    FnOk P w K mg base CX (k + 1) f (PySem.W.fnOf name qual params body scope dV kV doc pm an cdv ct) ps sp := by
  refine ⟨len, fun A outer s H args us vs Q E hr e0 hb r hsp => ?_⟩
  have hl := len _ _ _ _ hsp
  have KX : K.In s.heap := e0.mod.kin.keeps fun b o e => (e0.bs b o e).1
  have lim : s.heap.NoLimit := e0.mod.nolimit.keeps fun b o e => (e0.bs b o e).1
  have hkind : ∀ y ∈ ps.zip us, scope.names.lookup y.1 = some .local ∨ (scope.names.lookup y.1 = some .cell ∧ ((cellsFrom (s.heap.objs.size + 1) scope.names []).lookup y.1).isSome = true) := fun ⟨n, v⟩ hy => by
    rcases S.par n (List.of_mem_zip hy).1 with q | q
    · exact .inl q
    · exact .inr ⟨q, PySem.W.cellsFrom_some _ _ _ (.inl q)⟩
  refine codeAny_call_function hr.depth (KX _ _ lk) rfl S.co S.gen rfl (PySem.W.codeRec_of KX hcd) (hb _ _ _ _ ?_)
  refine wpAny_newFunctionEnv_cells S.kind hkind fun env he s1 x => ?_
  subst he
  refine ⟨lim.keeps x.toInCall.keep, codeAny_func ?_⟩
  obtain ⟨t, ht, hq⟩ := hbody A outer s H vs Q E (hr.deeper _) hsp
  have I : Inv (cxOf CX P w K mg base N qual scope f cdv A outer s H E) [] (start N vs) H s1 := inv_start S hr.hd e0 hl r x
  refine wpAny_mono (ht [] s1 (start N vs) H _ I hq) (fun fl s' hs => ?_) fun e s' hs => hs
  have fin : ∀ {σ' : St} {H' : Hp} {v : V} {u : Value}, Inv (cxOf CX P w K mg base N qual scope f cdv A outer s H E) [] σ' H' s' → RelV v u → Q v H' → CE outer P w H s Q u s' :=
    fun {σ' H' v u} J rv q => ⟨v, H', J.os, J.bare, J.base, J.hok, rv, q⟩
  cases fl with
  | ret u =>
    obtain ⟨v, σ', H', J, rv, q⟩ := hs
    exact fin J rv q
  | next =>
    obtain ⟨σ', H', J, q⟩ := hs
    exact fin (v := V.non) (u := Value.none) J rfl q
  | brk =>
    obtain ⟨_, _, _, q⟩ := hs
    exact False.elim q
  | cont =>
    obtain ⟨_, _, _, q⟩ := hs
    exact False.elim q
end L2
namespace L2
open PySem PySem.Spec PyProof.Rows
section
variable {X : Cx} {x : Str} {p pos : Pos} {e : Expr} {es : List Expr} {t : TA} {id T : String} {r : List V → Hp → VK → Prop}
def tCB (r : List V → Hp → VK → Prop) (t : TA) : TE := fun σ H Q => t σ H fun vs H1 => r vs H1 Q
theorem pe_callB (hc : CallR X (.builtin id) r) (hg : Gl X x) (hm : X.mg x = none) (hv : bootBuiltins x = some (.builtin id)) (ha : PA X (e :: es) t) (hn : x ≠ "__name__" := by decide) (hdb : (x == ("__debug__" : Str)) = false := by decide)
    (he : starEach (e :: es) X.env = (false, eval e X.env) :: starEach es X.env := by rfl) (hpl : (backTo pos (starEach es X.env)).any (·.1) = false := by rfl) : PE X (.Call (.Name x p) (e :: es) [] pos) (tCB r t) := by
  intro pins s σ H Q I h
  refine wpAny_Call_Name_kw (ld_blt I hg hm hv ?_ hn hdb)
  exact PyProof.Rows.callWith_builtin1 (thnA (ha pos pins s σ H _ I h) fun us s1 vs H1 I1 r1 q1 => hc pins s1 σ H1 vs us Q I1 r1 q1) he hpl
theorem pe_callTy (hc : CallR X (.type T) r) (hg : Gl X x) (hm : X.mg x = none) (hv : bootBuiltins x = some (.type T)) (ha : PA X (e :: es) t) (hn : x ≠ "__name__" := by decide) (hdb : (x == ("__debug__" : Str)) = false := by decide)
    (he : starEach (e :: es) X.env = (false, eval e X.env) :: starEach es X.env := by rfl) (hpl : (backTo pos (starEach es X.env)).any (·.1) = false := by rfl) : PE X (.Call (.Name x p) (e :: es) [] pos) (tCB r t) := by
  intro pins s σ H Q I h
  refine wpAny_Call_Name_kw (ld_blt I hg hm hv ?_ hn hdb)
  exact PyProof.Rows.callWith_type1 (thnA (ha pos pins s σ H _ I h) fun us s1 vs H1 I1 r1 q1 => hc pins s1 σ H1 vs us Q I1 r1 q1) he hpl
end
end L2
namespace HT
open PySem PyProof.Rows
section
open PySem.SeqAt
open PySem.AutoSeq1 (wpAny_loadPart')
open PySem.MeetsSeq PySem.MeetsSeq2 PySem.MeetsSeq3
end
section
variable {prog : Program} {w : World} {A : Around} {E : Value → Shared → Prop} {s : Shared}
def sIx (n d : Nat) : Option Int → Nat
  | none => d
  | some v => if v < 0 then (v + (n : Int)).toNat else min v.toNat n
end
end HT
namespace L2
open PySem PySem.Spec PyProof.Rows
abbrev TO := St → Hp → (Option Int → Hp → Prop) → Prop
def PO (X : Cx) (e : Option Expr) (t : TO) : Prop :=
  ∀ (pins : List (Addr × Obj)) (s : Shared) (σ : St) (H : Hp) (Q : Option Int → Hp → Prop), Inv X pins σ H s → t σ H Q →
    wpAny (model X.prog X.w) X.A (evalPart e X.env) (fun u s' => ∃ o H', Inv X pins σ H' s' ∧ IsPart u o ∧ Q o H') X.xe s
def tNoPart : TO := fun _ H Q => Q none H
def tPart (t : TE) : TO := fun σ H Q => t σ H fun x H1 => ∃ i, x = .int i ∧ Q (some i) H1
section
variable {X : Cx} {e : Expr} {te : TE} {lo hi : Option Expr} {tl th : TO} {pos p2 : Pos}
theorem po_none : PO X none tNoPart := by
  intro pins s σ H Q I h
  rw [evalPart_none]
  exact wpAny_pure ⟨none, H, I, .none, h⟩
theorem po_some (h : PE X e te) : PO X (some e) (tPart te) := by
  intro pins s σ H Q I hw
  rw [evalPart_some]
  refine thnE (h pins s σ H _ I hw) fun u s1 x H1 I1 r1 q1 => ?_
  obtain ⟨i, rfl, q⟩ := q1
  obtain ⟨t, rfl⟩ := r1
  exact ⟨some i, H1, I1, .int i t, q⟩
def SlR (X : Cx) (r : V → Option Int → Option Int → Hp → VK → Prop) : Prop :=
  ∀ (pins : List (Addr × Obj)) (s : Shared) (σ : St) (H : Hp) (x : V) (v vl vu : Value) (lo hi : Option Int) (sl : Addr) (Q : VK), Inv X pins σ H s → RelV x v → s.heap.IsSliceOf sl vl vu .none → IsPart vl lo → IsPart vu hi → r x lo hi H Q →
    ∃ T id, typeLookup (.type T) "__getitem__" = pure (some (.builtin id)) ∧ s.TypeIs v T ∧ wpAny (model X.prog X.w) X.A (getItem v (.ref sl)) (EP X pins σ Q) X.xe s
def tSl (r : V → Option Int → Option Int → Hp → VK → Prop) (te : TE) (tl th : TO) : TE := fun σ H Q => te σ H fun x H1 => tl σ H1 fun l H2 => th σ H2 fun u H3 => r x l u H3 Q
theorem pe_slice {r : V → Option Int → Option Int → Hp → VK → Prop} (hr : SlR X r) (he : PE X e te) (hl : PO X lo tl) (hu : PO X hi th) : PE X (.Subscript e (.Slice lo hi none p2) pos) (tSl r te tl th) := by
  intro pins s σ H Q I h
  refine Subscript_ (thnE (he pins s σ H _ I h) fun v s1 x H1 I1 r1 q1 => ?_)
  refine wpAny_Slice (thn (hl pins s1 σ H1 _ I1 q1) fun vl s2 ⟨l, H2, I2, pl, q2⟩ => thn (hu pins s2 σ H2 _ I2 q2) fun vu s3 ⟨u, H3, I3, pu, q3⟩ => ?_)
  rw [evalPart_none]
  refine wpAny_pure ?_
  have I4 : Inv X pins σ H3 { s3 with heap := s3.heap.push { cls := .type "slice", data := .fields #[vl, vu, .none] } } := I3.kept (t' := s3.toks) fun b ob q => Heap.get?_push_of_some _ q
  obtain ⟨T, id, hT, ht, hg⟩ := hr pins { s3 with heap := s3.heap.push { cls := .type "slice", data := .fields #[vl, vu, .none] } } σ H3 x v vl vu l u s3.heap.objs.size Q I4 r1 (Heap.IsSliceOf.new ..) pl pu q3
  show wpAny (model X.prog X.w) X.A (subscriptTail e (.Slice lo hi none p2) v (.ref s3.heap.objs.size)) (EP X pins σ Q) X.xe { s3 with heap := s3.heap.push { cls := .type "slice", data := .fields #[vl, vu, .none] } }
  exact tail_any (ops := [.ref s3.heap.objs.size, v]) ht hT hg (by with_unfolding_all rfl)
def cutV (xs : List V) (lo hi : Option Int) : List V := (xs.drop (HT.sIx xs.length 0 lo)).take (HT.sIx xs.length xs.length hi - HT.sIx xs.length 0 lo)
theorem cutV_length (xs : List V) (lo hi : Option Int) : (cutV xs lo hi).length ≤ xs.length := by
  unfold cutV
  rw [List.length_take, List.length_drop]
  omega
end
end L2
namespace L2
open PySem PySem.Spec PyProof.Rows
def ixN (n : Nat) (i : Int) : Option Nat := if 0 ≤ i then (if i < n then some i.toNat else none) else if -(n : Int) ≤ i then some (i + n).toNat else none
def atI {α : Type} (xs : List α) (i : Int) : Option α := (ixN xs.length i).bind fun j => xs[j]?
theorem ixN_seq {n : Nat} {i : Int} {j : Nat} (h : ixN n i = some j) : seqIndex? i n = some j ∧ j < n ∧ -(n : Int) ≤ i ∧ i < n := by
  unfold ixN at h
  by_cases h0 : 0 ≤ i
  · rw [if_pos h0] at h
    by_cases h1 : i < n
    · rw [if_pos h1] at h
      have e : i.toNat = j := Option.some.inj h
      exact ⟨by rw [seqIndex_of h0 h1, e], by omega, by omega, h1⟩
    · rw [if_neg h1] at h; cases h
  · rw [if_neg h0] at h
    by_cases h1 : -(n : Int) ≤ i
    · rw [if_pos h1] at h
      have e : (i + n).toNat = j := Option.some.inj h
      exact ⟨by rw [seqIndex_neg (by omega) h1, e], by omega, h1, by omega⟩
    · rw [if_neg h1] at h; cases h
theorem atI_get {α : Type} {xs : List α} {i : Int} {v : α} (h : atI xs i = some v) : ∃ j, seqIndex? i xs.length = some j ∧ xs[j]? = some v ∧ j < xs.length ∧ -(xs.length : Int) ≤ i ∧ i < xs.length := by
  unfold atI at h
  cases e : ixN xs.length i with
  | none => rw [e] at h; cases h
  | some j =>
    rw [e] at h
    obtain ⟨h1, h2, h3, h4⟩ := ixN_seq e
    exact ⟨j, h1, h, h2, h3, h4⟩
def PlainIx (b : Expr) : Prop := ∀ o i, subscripted b false o i = operate [o, i] (getItem o i)
def IxR (X : Cx) (r : R2) : Prop :=
  ∀ (value slice : Expr) (pins : List (Addr × Obj)) (s : Shared) (σ : St) (H : Hp) (x y : V) (v u : Value) (Q : VK), Inv X pins σ H s → RelV x v → RelV y u → r x y H Q →
    subscripted slice false v u = operate [v, u] (getItem v u) → wpAny (model X.prog X.w) X.A (subscriptTail value slice v u) (EP X pins σ Q) X.xe s
section
variable {X : Cx} {a b : Expr} {ta tb : TE} {pos : Pos}
theorem pe_ix {r : R2} (hr : IxR X r) (ha : PE X a ta) (hb : PE X b tb) (hs : PlainIx b) : PE X (.Subscript a b pos) (tOp r ta tb) := by
  intro pins s σ H Q I h
  exact Subscript_ (binT ha hb I h fun v u s2 x y H2 I2 rx ry q => hr a b pins s2 σ H2 x y v u Q I2 rx ry q (hs _ _))
def rIxL (K : PySem.W.Frag) : R2 := fun x y H Q => ∃ p xs i v, x = .ref p ∧ y = .int i ∧ SqL K H p xs ∧ atI xs i = some v ∧ Q v H
def rIxT (K : PySem.W.Frag) : R2 := fun x y H Q => ∃ p xs i v, x = .ref p ∧ y = .int i ∧ SqT K H p xs ∧ atI xs i = some v ∧ Q v H
theorem ix_list : IxR X (rIxL X.K) := by
  intro value slice pins s σ H x y v u Q I rx ry h hs
  obtain ⟨p, xs, i, z, rfl, rfl, hq, he, q⟩ := h
  cases rx
  obtain ⟨t, rfl⟩ := ry
  obtain ⟨its, r, pl, hz⟩ := I.list hq
  obtain ⟨j, h1, h2, h3, h4, h5⟩ := atI_get he
  obtain ⟨w, ew, rw'⟩ := r.get h2
  have hl := r.length
  have hn := line63
  have fin : EP X pins σ Q w s := ⟨z, H, I, rw', q⟩
  by_cases h0 : 0 ≤ i
  · have hj : i.toNat = j := by
      rw [seqIndex_of h0 h5] at h1
      exact Option.some.inj h1
    exact item_listR pl.isList h0 (by omega) (by rw [hj]; simpa using ew) fin hs
  · have hj : (i + (its.toArray.size : Int)).toNat = j := by
      rw [seqIndex_neg (by omega) h4] at h1
      rw [List.size_toArray, ← hl]
      exact Option.some.inj h1
    exact subscriptTail_builtinR (x := w) pl.isList.typeIs slot_list_getitem.lookup
      (wpAny_getItem_list_neg (Q := fun r s' => r = w ∧ EP X pins σ Q r s') pl.isList (by omega) (by rw [List.size_toArray] <;> omega) (by omega) (by rw [hj]; simpa using ew) ⟨rfl, fin⟩) hs
theorem ix_tup : IxR X (rIxT X.K) := by
  intro value slice pins s σ H x y v u Q I rx ry h hs
  obtain ⟨p, xs, i, z, rfl, rfl, hq, he, q⟩ := h
  cases rx
  obtain ⟨t, rfl⟩ := ry
  obtain ⟨its, r, pl, hz⟩ := I.tuple hq
  obtain ⟨j, h1, h2, h3, h4, h5⟩ := atI_get he
  obtain ⟨w, ew, rw'⟩ := r.get h2
  have hl := r.length
  have hn := line63
  have fin : EP X pins σ Q w s := ⟨z, H, I, rw', q⟩
  exact subscriptTail_builtinR (x := w) pl.typeIs slot_tuple_getitem.lookup
    (getItem_tuple (j := j) (Q := fun r s' => r = w ∧ EP X pins σ Q r s') pl (by omega) (by omega) (by rw [List.size_toArray, ← hl]; exact h1) (by simpa using ew) ⟨rfl, fin⟩) hs
theorem mapSeq_set (its : List Value) (n j : Nat) (u : Value) : Obj.mapSeq (·.setIfInBounds j u) { cls := .type "list", data := .seq its.toArray n } = { cls := .type "list", data := .seq (its.set j u).toArray n } := by
  simp [Obj.mapSeq]
theorem Inv.lst {pins : List (Addr × Obj)} {σ : St} {H : Hp} {s : Shared} {p : Addr} {xs : List V} (I : Inv X pins σ H s) (h : H p = some (.lst xs)) :
    ∃ (its : List Value) (n : Nat), Vals xs its ∧ s.heap.get? p = some { cls := .type "list", data := .seq its.toArray n } ∧ xs.length ≤ sizeLine := by
  obtain ⟨z, its, n, r, e⟩ := I.hok p _ h
  exact ⟨its, n, r, e, z⟩
theorem Inv.lstUpd {pins : List (Addr × Obj)} {σ : St} {H : Hp} {s : Shared} {p : Addr} {xs ys : List V} {its its' : List Value} {n n' : Nat} {f : Obj → Obj} (I : Inv X pins σ H s) (h : H p = some (.lst xs))
    (ho : s.heap.get? p = some { cls := .type "list", data := .seq its.toArray n }) (hf : f { cls := .type "list", data := .seq its.toArray n } = { cls := .type "list", data := .seq its'.toArray n' }) (r : Vals ys its') (hz : ys.length ≤ sizeLine) (t : Nat) :
    Inv X pins σ (upd H p (.lst ys)) { s with heap := s.heap.update p f, toks := t } := by
  have e : (s.heap.update p f).get? p = some { cls := .type "list", data := .seq its'.toArray n' } := by
    rw [Heap.get?_update_self f ho (by rw [hf] <;> rfl), hf]
  refine I.write (x := p) (e := p) (by rw [h]; trivial) (.inl rfl) (fun b u hb q => (Heap.get?_update_other _ _ (Ne.symm hb)).trans q) ⟨_, e⟩ ?_
  exact ⟨hz, its', n', r, e⟩
def rSetL : V → V → V → Hp → (Hp → Prop) → Prop := fun o i v H Q => ∃ p xs k j, o = .ref p ∧ i = .int k ∧ H p = some (.lst xs) ∧ ixN xs.length k = some j ∧ Q (upd H p (.lst (xs.set j v)))
theorem set_list : PSet X rSetL := by
  intro pins s σ H o i v ov iv u Q I ro ri rv h
  obtain ⟨p, xs, k, j, rfl, rfl, hp, hj, q⟩ := h
  cases ro
  obtain ⟨t, rfl⟩ := ri
  obtain ⟨its, n, r, ho, hz⟩ := I.lst hp
  obtain ⟨h1, h2, h3, h4⟩ := ixN_seq hj
  have hl := r.length
  have hn := line63
  have I' : Inv X pins σ (upd H p (.lst (xs.set j v))) { s with heap := s.heap.update p (Obj.mapSeq (·.setIfInBounds j u)) } :=
    I.lstUpd hp ho (mapSeq_set its n j u) (r.set rv j) (by rw [List.length_set]; exact hz) s.toks
  by_cases h0 : 0 ≤ k
  · have hk : k.toNat = j := by
      rw [seqIndex_of h0 h4] at h1
      exact Option.some.inj h1
    exact PySem.W.ki_setAt ho h0 (by omega) (by rw [List.size_toArray, ← hl]; exact h4) (by rw [hk]; exact ⟨_, I', q⟩)
  · have hk : (k + (its.toArray.size : Int)).toNat = j := by
      rw [seqIndex_neg (by omega) h3] at h1
      rw [List.size_toArray, ← hl]
      exact Option.some.inj h1
    exact PySem.W.ki_setBack ho (by omega) (by rw [List.size_toArray, ← hl]; exact h3) (by omega) (by rw [hk]; exact ⟨_, I', q⟩)
theorem slice_bounds (lo hi : Option Int) (n : Nat) : (sliceBounds lo hi none n).1 = ((HT.sIx n 0 lo : Nat) : Int) ∧ (sliceBounds lo hi none n).2.1 = ((HT.sIx n n hi : Nat) : Int) ∧ (sliceBounds lo hi none n).2.2 = 1 := by
  refine ⟨?_, ?_, rfl⟩
  · cases lo with
    | none => simp [sliceBounds, HT.sIx]
    | some i =>
      simp only [sliceBounds, HT.sIx, Option.getD_none, show (1 : Int) > 0 by decide, if_true]
      by_cases h : i < 0
      · simp only [h, if_true] <;> omega
      · simp only [h, if_false] <;> omega
  · cases hi with
    | none => simp [sliceBounds, HT.sIx]
    | some i =>
      simp only [sliceBounds, HT.sIx, Option.getD_none, show (1 : Int) > 0 by decide, if_true]
      by_cases h : i < 0
      · simp only [h, if_true] <;> omega
      · simp only [h, if_false] <;> omega
theorem slicePick_cut (its : List Value) (lo hi : Option Int) : slicePick its.toArray lo hi none = ((its.drop (HT.sIx its.length 0 lo)).take (HT.sIx its.length its.length hi - HT.sIx its.length 0 lo)).toArray := by
  obtain ⟨h1, h2, h3⟩ := slice_bounds lo hi its.toArray.size
  unfold slicePick
  rw [h1, h2, h3]
  simp only [sliceRange_one, pick_run, List.size_toArray] <;> rfl
def rSlL (K : PySem.W.Frag) : V → Option Int → Option Int → Hp → VK → Prop := fun x lo hi H Q => ∃ a xs, x = .ref a ∧ SqL K H a xs ∧ ∀ p, H p = none → Q (.ref p) (upd H p (.lst (cutV xs lo hi)))
theorem sl_list : SlR X (rSlL X.K) := by
  intro pins s σ H x v vl vu lo hi sl Q I rx hs pl pu h
  obtain ⟨a, xs, rfl, hx, q⟩ := h
  cases rx
  obtain ⟨its, r, ht, hz⟩ := I.list hx
  have hlen := r.length
  refine ⟨"list", _, slot_list_getitem.lookup, ht.isList.typeIs, ?_⟩
  refine wpAny_getItem_list_slice ht.isList hs pl pu .none (by simp) ?_ (by rw [List.size_toArray] <;> omega)
  rw [slicePick_cut, ← hlen]
  refine ⟨.ref s.heap.objs.size, _, I.laid (t' := s.toks) (o := .lst (cutV xs lo hi)) (fun b ob q => Heap.get?_push_of_some _ q) (Nat.le_refl _) ?_, rfl, q _ (I.hok.fresh (Nat.le_refl _))⟩
  exact ⟨Nat.le_trans (cutV_length xs lo hi) hz, _, 0, (r.drop (HT.sIx xs.length 0 lo)).take (HT.sIx xs.length xs.length hi - HT.sIx xs.length 0 lo), Heap.get?_push_size _ rfl⟩
theorem call_len_seq : CallR X (.builtin "len") (fun xs H Q => ∃ p ys, xs = [.ref p] ∧ (SqL X.K H p ys ∨ SqT X.K H p ys) ∧ Q (.int ys.length) H) := by
  intro pins s σ H xs us Q I r h
  obtain ⟨p, ys, rfl, hq, q⟩ := h
  obtain ⟨u, rfl, rx⟩ := vals1 r
  cases rx
  have hn := line63
  rcases hq with hq | hq
  · obtain ⟨its, r', pl, hz⟩ := I.list hq
    have hlen := r'.length
    exact Calls.call_len_list pl.isList (by simp only [List.size_toArray] <;> omega) ⟨.int ys.length, H, I.tok _, ⟨s.toks + 1, by rw [List.size_toArray, hlen]⟩, q⟩
  · obtain ⟨its, r', pl, hz⟩ := I.tuple hq
    have hlen := r'.length
    exact len_tuple pl (by simp only [List.size_toArray] <;> omega) ⟨.int ys.length, H, I.tok _, ⟨s.toks + 1, by rw [List.size_toArray, hlen]⟩, q⟩
theorem call_list_of : CallR X (.type "list") (fun xs H Q => ∃ p ys, xs = [.ref p] ∧ (SqL X.K H p ys ∨ SqT X.K H p ys) ∧ ∀ l, H l = none → Q (.ref l) (upd H l (.lst ys))) := by
  intro pins s σ H xs us Q I r h
  obtain ⟨p, ys, rfl, hq, q⟩ := h
  obtain ⟨u, rfl, rx⟩ := vals1 r
  cases rx
  have fin : ∀ (its : List Value), Vals ys its → ys.length ≤ sizeLine → ∀ (h' : Heap) (c' : Nat), (∀ b o', s.heap.get? b = some o' → h'.get? b = some o') →
      h'.get? s.heap.objs.size = some { cls := .type "list", dict := none, data := .seq its.toArray c', slots := #[] } → EP X pins σ Q (.ref s.heap.objs.size) { s with heap := h' } := fun its r' hz h' c' kp e =>
    ⟨.ref s.heap.objs.size, _, I.laid (t' := s.toks) kp (Nat.le_refl _) (show ObjOk X.prog X.w _ h' _ (.lst ys) from ⟨hz, its, c', r', e⟩), rfl, q _ (I.hok.fresh (Nat.le_refl _))⟩
  rcases hq with hq | hq
  · obtain ⟨its, r', pl, hz⟩ := I.list hq
    have hlen := r'.length
    obtain ⟨o, ho, hc, n, hd⟩ := pl.isList
    exact call_list_seq p (.inl rfl) ho hc hd (fun h' c' kp e => fin its r' hz h' c' kp e) (by simp only [List.size_toArray] <;> omega)
  · obtain ⟨its, r', pl, hz⟩ := I.tuple hq
    have hlen := r'.length
    obtain ⟨o, ho, hc, n, hd⟩ := pl
    exact call_list_seq p (.inr rfl) ho hc hd (fun h' c' kp e => fin its r' hz h' c' kp e) (by simp only [List.size_toArray] <;> omega)
theorem call_tuple_of : CallR X (.type "tuple") (fun xs H Q => ∃ p ys, xs = [.ref p] ∧ ((SqL X.K H p ys ∧ ∀ l, H l = none → Q (.ref l) (upd H l (.tup ys))) ∨ (SqT X.K H p ys ∧ Q (.ref p) H))) := by
  intro pins s σ H xs us Q I r h
  obtain ⟨p, ys, rfl, h⟩ := h
  obtain ⟨u, rfl, rx⟩ := vals1 r
  cases rx
  rcases h with ⟨hq, q⟩ | ⟨hq, q⟩
  · obtain ⟨its, r', pl, hz⟩ := I.list hq
    have hlen := r'.length
    refine call_tuple_list pl.isList (fun h' kp => ?_) (by simp only [List.size_toArray] <;> omega)
    have I1 : Inv X pins σ H { s with heap := h' } := I.kept (t' := s.toks) kp
    have I2 : Inv X pins σ (upd H h'.objs.size (.tup ys)) { s with heap := h'.push { cls := .type "tuple", data := .seq its.toArray } } :=
      I1.laid (t' := s.toks) (fun b o e => Heap.get?_push_of_some _ e) (Nat.le_refl _) (show ObjOk X.prog X.w _ _ _ (.tup ys) from ⟨hz, its, r', IsTup.new _ _⟩)
    exact ⟨.ref h'.objs.size, _, I2, rfl, q _ (I1.hok.fresh (Nat.le_refl _))⟩
  · obtain ⟨its, r', pl, hz⟩ := I.tuple hq
    exact call_tuple_same pl ⟨.ref p, H, I, rfl, q⟩
def tyV (K : PySem.W.Frag) (T : String) (x : V) (H : Hp) : Prop := match x with
  | .str _ => T = "str"
  | .int _ => T = "int"
  | .ref p => (T = "list" ∧ ∃ xs, SqL K H p xs) ∨ (T = "tuple" ∧ ∃ o, K.lookup p = some o ∧ o.cls = .type "tuple" ∧ o.dict = none) ∨
      (T = "dict" ∧ ((∃ kvs, H p = some (.dK kvs)) ∨ ∃ kvs, H p = some (.dT kvs))) ∨ (T = "set" ∧ ∃ S n, H p = some (.set S n))
  | _ => False
def tBM0 (K : PySem.W.Frag) (T : String) (r : V → List V → Hp → VK → Prop) (to : TE) : TE := fun σ H Q => to σ H fun x H1 => tyV K T x H1 ∧ r x [] H1 Q
def tBM (K : PySem.W.Frag) (T : String) (r : V → List V → Hp → VK → Prop) (to : TE) (t : TA) : TE := fun σ H Q => to σ H fun x H1 => tyV K T x H1 ∧ t σ H1 fun xs H2 => r x xs H2 Q
variable {o e : Expr} {es : List Expr} {to : TE} {t : TA} {name : Str} {apos cpos : Pos} {T id : String} {r : V → List V → Hp → VK → Prop}
end
end L2
namespace L2
open PySem PySem.Spec PyProof.Rows
def MtM (X : Cx) (id : String) (r : V → List V → Hp → VK → Prop) : Prop :=
  ∀ (pins : List (Addr × Obj)) (s : Shared) (σ : St) (H : Hp) (x : V) (xs : List V) (v : Value) (us : List Value) (Q : VK), Inv X pins σ H s → RelV x v → Vals xs us → r x xs H Q →
    wpAny (model X.prog X.w) X.A (call (.builtin id) (v :: us)) (EP X pins σ Q) X.xe s
theorem Vals.one {x : V} {us : List Value} (h : Vals [x] us) : ∃ u, us = [u] ∧ RelV x u := by
  cases h with
  | cons r t => cases t; exact ⟨_, rfl, r⟩
section
variable {X : Cx} {pins : List (Addr × Obj)} {σ : St} {H : Hp} {s : Shared} {l b : Addr} {xs ys zs : List V}
theorem Inv.lset {its its' : List Value} {n : Nat} {f : Array Value → Array Value} {t' : Nat} (I : Inv X pins σ H s) (hH : H l = some (.lst xs))
    (e : s.heap.get? l = some { cls := .type "list", data := .seq its.toArray n }) (hf : f its.toArray = its'.toArray) (hv : Vals ys its') (hz : ys.length ≤ sizeLine) :
    Inv X pins σ (upd H l (.lst ys)) { s with heap := s.heap.update l (Obj.mapSeq f), toks := t' } := by
  have q := PySem.IsL.update e f
  rw [hf] at q
  refine I.write (x := l) (e := l) (by rw [hH]; exact trivial) (.inl rfl) (fun b' u hb hu => (Heap.get?_update_other s.heap (Obj.mapSeq f) (Ne.symm hb)).trans hu) ⟨_, q⟩ ?_
  exact ⟨hz, its', _, hv, q⟩
theorem Inv.lnew {its : List Value} {t' : Nat} (I : Inv X pins σ H s) (hv : Vals ys its) (hz : ys.length ≤ sizeLine) :
    Inv X pins σ (upd H s.heap.objs.size (.lst ys)) { s with heap := s.heap.push { cls := .type "list", data := .seq its.toArray }, toks := t' } :=
  I.laid (fun _ _ q => Heap.get?_push_of_some _ q) (Nat.le_refl _) ⟨hz, its, 0, hv, Heap.get?_push_size _ rfl⟩
theorem Inv.fresh (I : Inv X pins σ H s) : H s.heap.objs.size = none := I.hok.fresh (Nat.le_refl _)
theorem Inv.lstM (I : Inv X pins σ H s) (hH : H l = some (.lst xs)) : xs.length ≤ sizeLine ∧ ∃ (its : List Value) (n : Nat), Vals xs its ∧ xs.length = its.length ∧ s.heap.get? l = some { cls := .type "list", data := .seq its.toArray n } := by
  obtain ⟨z, its, n, r, e⟩ := I.hok l _ hH
  exact ⟨z, its, n, r, r.length, e⟩
end
section
variable {X : Cx}
def rAppend : V → List V → Hp → VK → Prop := fun x vs H Q => ∃ l xs y, x = .ref l ∧ vs = [y] ∧ H l = some (.lst xs) ∧ xs.length < sizeLine ∧ Q .non (upd H l (.lst (xs ++ [y])))
theorem mt_append : MtM X "list.append" rAppend := by
  intro pins s σ H x vs v us Q I rx rv h
  obtain ⟨l, xs, y, rfl, rfl, hH, hz, q⟩ := h
  cases rx
  obtain ⟨u, rfl, ru⟩ := rv.one
  obtain ⟨z, its, n, r, hl, e⟩ := I.lstM hH
  refine call_meets F.slot_list_append ⟨_, e, rfl⟩ F.entry_list_append (F.args_list_append_2 _ _) (PySem.list_append l its.toArray n u (by rw [List.size_toArray]; omega)) ⟨e, ?_⟩
  refine ⟨.non, _, I.lset (its' := its ++ [u]) hH e (by simp) (r.append (.cons ru .nil)) ?_, rfl, q⟩
  rw [List.length_append, List.length_singleton]
  omega
def rCat : R2 := fun x y H Q => ∃ l b xs zs, x = .ref l ∧ y = .ref b ∧ H l = some (.lst xs) ∧ H b = some (.lst zs) ∧ xs.length + zs.length ≤ sizeLine ∧ ∀ p, H p = none → Q (.ref p) (upd H p (.lst (xs ++ zs)))
theorem op_cat : OpR X (binaryOp .Add) rCat := by
  intro pins s σ H x y v u Q I rx ry h
  obtain ⟨l, b, xs, zs, rfl, rfl, hH, hB, hz, q⟩ := h
  cases rx
  cases ry
  obtain ⟨z, its, n, r, hl, e⟩ := I.lstM hH
  obtain ⟨z2, its2, n2, r2, hl2, e2⟩ := I.lstM hB
  refine PySem.P.add_list e e2 ?_ (by rw [List.size_toArray, List.size_toArray]; omega)
  have ea : its.toArray ++ its2.toArray = (its ++ its2).toArray := by simp
  rw [ea]
  exact ⟨.ref _, _, I.lnew (t' := s.toks) (r.append r2) (by rw [List.length_append]; omega), rfl, q _ I.fresh⟩
end
section
variable {prog : Program} {w : World} {A : Around} {E : Value → Shared → Prop} {s : Shared}
set_option maxRecDepth 100000 in
end
section
variable {X : Cx}
end
end L2
namespace L2
open PySem PySem.Spec PyProof.Rows
section
variable {κ : Type} [DecidableEq κ]
def valV (kvs : List (κ × V)) (k : κ) : Option V := (kvs.find? fun kv => decide (kv.1 = k)).map (·.2)
def putK (kvs : List (κ × V)) (k : κ) (v : V) : List (κ × V) :=
  if (kvs.any fun kv => decide (kv.1 = k)) = true then kvs.map (fun kv => if kv.1 = k then (kv.1, v) else kv) else kvs ++ [(k, v)]
end
section
variable {P : Program} {w : World} {H : Hp} {h : Heap} {a : Addr}
end
def DGet (H : Hp) (a : Addr) (y : V) (r : Option V) : Prop :=
  (∃ kvs k, Rd H a (.dK kvs) ∧ y = kV k ∧ r = valV kvs k) ∨ ∃ kvs k b, Rd H a (.dT kvs) ∧ y = .ref b ∧ H b = some (.tup (k.map kV)) ∧ r = valV kvs k
def DPut (H : Hp) (a : Addr) (y v : V) (H' : Hp) : Prop :=
  (∃ kvs k, H a = some (.dK kvs) ∧ y = kV k ∧ kvs.length < sizeLine ∧ H' = upd H a (.dK (putK kvs k v))) ∨
  ∃ kvs k b, H a = some (.dT kvs) ∧ y = .ref b ∧ H b = some (.tup (k.map kV)) ∧ kvs.length < sizeLine ∧ H' = upd H a (.dT (putK kvs k v))
section
variable {X : Cx} {pins : List (Addr × Obj)} {σ : St} {H : Hp} {s : Shared} {a : Addr} {y v : V} {u r : Value} {o : Option V} {A : Around} {E : Value → Shared → Prop}
end
section
variable {X : Cx} {pins : List (Addr × Obj)} {σ : St} {H : Hp} {s : Shared} {a : Addr} {kvs : List (Key × V)} {k : Key} {u : Value} {A : Around} {E : Value → Shared → Prop}
end
def tDGet (td ty : TE) : TE := fun σ H Q => td σ H fun x H1 => ty σ H1 fun y H2 => ∃ a v, x = .ref a ∧ DGet H2 a y (some v) ∧ Q v H2
def tDIn (ty td : TE) : TE := fun σ H Q => ty σ H fun y H1 => td σ H1 fun x H2 => ∃ a o, x = .ref a ∧ DGet H2 a y o ∧ Q (.bl o.isSome) H2
def tDNotIn (ty td : TE) : TE := fun σ H Q => ty σ H fun y H1 => td σ H1 fun x H2 => ∃ a o, x = .ref a ∧ DGet H2 a y o ∧ Q (.bl (!o.isSome)) H2
def sDPut (td ty tv : TE) : TS := fun D σ H => tv σ H fun v H1 => td σ H1 fun x H2 => ty σ H2 fun y H3 => ∃ a H4, x = .ref a ∧ DPut H3 a y v H4 ∧ D.nx σ H4
section
variable {X : Cx} {o i e value : Expr} {pos pos' tpos : Pos} {td ty tv : TE}
end
def tDNewK : TE := fun _ H Q => ∀ p, H p = none → Q (.ref p) (upd H p (.dK []))
def tDNewT : TE := fun _ H Q => ∀ p, H p = none → Q (.ref p) (upd H p (.dT []))
section
variable {X : Cx} {pos : Pos}
end
def tPairs : List (TE × TE) → St → Hp → (List (V × V) → Hp → Prop) → Prop
  | [], _, H, Q => Q [] H
  | (tk, tv) :: r, σ, H, Q => tk σ H fun x H1 => tv σ H1 fun y H2 => tPairs r σ H2 fun ps H3 => Q ((x, y) :: ps) H3
abbrev VV : List (V × V) → List (Value × Value) → Prop := Paired fun p q => RelV p.1 q.1 ∧ RelV p.2 q.2
def PPs (X : Cx) (pos : Pos) (keys : List (Option Expr)) (values : List Expr) (trs : List (TE × TE)) : Prop :=
  ∀ (pins : List (Addr × Obj)) (s : Shared) (σ : St) (H : Hp) (Q : List (V × V) → Hp → Prop), Inv X pins σ H s → tPairs trs σ H Q →
    wpAny (model X.prog X.w) X.A (evalPairs (pairTrees keys values X.env pos)) (fun vs s' => ∃ ps H', Inv X pins σ H' s' ∧ VV ps vs ∧ Q ps H') X.xe s
def mergeK (kvs more : List (Key × V)) : List (Key × V) := more.foldl (fun acc kv => putK acc kv.1 kv.2) kvs
def tDisp (trs : List (TE × TE)) : TE := fun σ H Q => ∀ p, H p = none → tPairs trs σ (upd H p (.dK [])) fun ps H2 => H2 p = some (.dK []) ∧ ∃ kvs : List (Key × V), ps = kvs.map (fun kv => (kV kv.1, kv.2)) ∧ kvs.length ≤ 15 ∧ Q (.ref p) (upd H2 p (.dK (mergeK [] kvs)))
section
variable {X : Cx} {pins : List (Addr × Obj)} {σ : St} {H : Hp} {s : Shared} {a : Addr} {y d : V} {u r : Value} {o : Option V} {A : Around} {E : Value → Shared → Prop}
end
section
variable {X : Cx} {o e f : Expr} {apos cpos : Pos} {td ty tx : TE}
end
section
variable {X : Cx} {pins : List (Addr × Obj)} {σ : St} {H : Hp} {s : Shared} {a : Addr} {kvs : List (Key × V)} {A : Around} {E : Value → Shared → Prop}
end
section
variable {X : Cx} {pins : List (Addr × Obj)} {σ : St} {H : Hp} {s : Shared} {a : Addr} {y : V} {u : Value} {A : Around} {E : Value → Shared → Prop}
end
end L2
namespace Att
open PySem PySem.W PySem.Calls PyProof.Rows
theorem ints_of_wellAll {P : Params} {h : Heap} : ∀ (ns : List Int) (vs : List Value), WellAll P h vs (ns.map WData.int) → IntsAre vs ns := by
  intro ns
  induction ns with
  | nil =>
    intro vs w
    rw [List.map_nil] at w
    cases w
    exact .nil
  | cons n ns ih =>
    intro vs w
    rw [List.map_cons] at w
    cases w with
    | cons a b =>
      cases a
      exact .cons _ _ (ih _ b)
theorem script_of {l : OpenLaw} {n : Nat} (hn : l.most = some n) {P : Params} {h : Heap} {args : List WData} {vals : List Value}
    (hpre : l.row.toRowW.claim.pre args = true) (hwl : WellAll P h vals args) :
    ∃ a vs ns, vals = [Value.ref a] ∧ args = [WData.list (ns.map WData.int)] ∧ h.get? a = some { cls := .type "list", data := .seq vs.toArray } ∧ IntsAre vs ns ∧ ns.length ≤ n := by
  have hsh : WShape.hasAll [] args [.list .int] = true := (pre_splitW hpre).1
  have hc : l.pre.holds [] { args := args } = true := (pre_splitW hpre).2
  obtain ⟨d, r, rfl, h1, h2⟩ := hasAllW_cons hsh
  obtain rfl := hasAllW_nil h2
  obtain ⟨xs, rfl, h3⟩ := hasW_list h1
  obtain ⟨ns, rfl⟩ := items_int h3
  have hlen : ns.length ≤ n := by
    unfold OpenLaw.pre at hc
    have h4 : (WTm.not (.lt (.lit (.int (n : Int))) (.len (.arg 0)))).holds [] { args := [.list (ns.map .int)] } = true := by
      have h4 := (holds_andW hc).1
      rw [hn] at h4
      exact h4
    have h5 := condW_of h4 (w_not (w_lt w_lit (w_len_list (w_arg rfl))))
    rw [List.length_map] at h5
    refine Nat.le_of_not_lt fun q => ?_
    have q' : (n : Int) < ((ns.length : Nat) : Int) := by omega
    first
      | (rw [decide_eq_true q'] at h5; exact absurd h5 (by decide))
      | (simp at h5; omega)
  cases hwl with
  | cons w1 w2 =>
    cases w2
    cases w1 with
    | list ho hall => exact ⟨_, _, ns, rfl, rfl, ho, ints_of_wellAll ns _ hall, hlen⟩
theorem post_true (l : OpenLaw) (args : List WData) : l.row.toRowW.claim.post args (.bool true) args = true :=
  postW_of (r := l.row.toRowW) (X := (true == true))
    (show WShape.has [] (.bool true) .bool = true by first | rfl | decide | simp [WShape.has, WShape.arms, WShape.armsAll])
    (show (WTm.eq .res (.lit (.bool true))).value [] { args := args, res := some (.bool true), after := args } = some (.bool (true == true)) from w_eq_bool (w_res rfl) w_lit) rfl
theorem attach_call {l : OpenLaw} {n : Nat} {q : Program} {loose : List Str} {XP : (Str → Option Value) → Heap → Prop} {YP : World → Heap → Prop} {d : DefRec}
    (hn : l.most = some n) (hdf : d.params.defaults = [])
    (call : ∀ (w : World) (s₀ s₁ : Shared) (mg mb : Str → Option Value) (fa : Addr) (o : Obj) (pm cd doc : Value) (a : Addr) (vs : List Value) (ns : List Int),
      Ground q loose [] XP w s₀ mg mb s₁.heap → YP w s₁.heap →
      s₁.heap.get? fa = some o → o.data = .func (docDef d.name d.params d.body d.scope pm cd doc) → s₁.heap.CodeRec cd d.name → mg d.name = some (.ref fa) →
      s₁.heap.get? a = some { cls := .type "list", data := .seq vs.toArray } → IntsAre vs ns → ns.length ≤ n → s₁.gens = #[] →
      codeAny (model l.prog w) callerA (.call (.ref fa) ⟨[.ref a], []⟩) (fun r s' => r = .ok (.ret (.bool true)) ∧ OldK s₁.heap s'.heap ∧ s'.os = s₁.os ∧ AllBare s'.gens) s₁) :
    WalkO q loose XP YP l.row.toRowW d [] (fun f vs => PySem.call f vs) := by
  intro w s₀ s₁ mg mb G Y fa o pm cd doc dV kV ho hd hcd hD hmg hg args vals as hpre hlay hrd hwl hlo
  obtain rfl : dV = .none := Dflts.none hD hdf
  obtain rfl : kV = .none := Dflts.noKw hD
  obtain ⟨a, vs, ns, rfl, rfl, hobj, hints, hlen⟩ := script_of hn hpre hwl
  refine enter_call (codeAny_mono (call w s₀ s₁ mg mb fa o pm cd doc a vs ns G Y ho (fd_plain hd) hcd hmg hobj hints hlen hg) fun r s' hq => ?_)
  obtain ⟨rfl, h2, h3, h4⟩ := hq
  exact ⟨.inl ⟨.bool true, .bool true, [], rfl, fun _ => rfl, .bool true, post_true l _, fun _ => ⟨List.Pairwise.nil, fun _ hm => (nomatch hm)⟩⟩, h2, h3, h4⟩
section
variable {prog : Program} {w : World} {A : Around} {E : Value → Shared → Prop} {s : Shared} {K : Frag}
end
end Att
namespace L2
open PySem PySem.Spec PyProof.Rows
theorem vals_ints : ∀ {vs : List Value} {ns : List Int}, IntsAre vs ns → Vals (ns.map V.int) vs
  | _, _, .nil => .nil
  | _, _, .cons n t h => .cons ⟨t, rfl⟩ (vals_ints h)
def Only (H : Hp) : Prop := ∀ b, H b = none ∨ ∃ o xs, H b = some (.frz o (.lst xs))
theorem law_call {P : Program} {w : World} {K : PySem.W.Frag} {mg mb : Str → Option Value} {CX : CXT} {k : Nat} {fa a : Addr} {fd : FuncData} {x : Str} {sp : Sp} {s₁ : Shared} {vs : List Value} {ns : List Int}
    (KX : K.In s₁.heap) (hns : s₁.heap.Ns mainGlobals mg) (hb : s₁.heap.Ns builtinsNs mb) (hbb : ∀ x : Str, x ≠ "__name__" → mb x = bootBuiltins x) (hlim : s₁.heap.NoLimit) (hg : s₁.gens = #[])
    (ha : s₁.heap.get? a = some { cls := .type "list", data := .seq vs.toArray }) (hi : IntsAre vs ns) (hl : ns.length ≤ sizeLine) (hr : Room k callerA)
    (F : ∀ base : Heap, K.In base → base.Ns mainGlobals mg → FnOk P w K mg base CX k fa fd [x] sp) (hbind : ∀ (s : Shared) (u : Value), BindsTo s fd ⟨[u], []⟩ [(x, u)])
    (hsp : ∀ H : Hp, Only H → SqL K H a (ns.map V.int) → sp [.ref a] H (fun v _ => v = .bl true) fun _ _ _ => False)
    (hCX : ∀ H e s', CX [] H s₁ (fun _ _ _ => False) e s' → False) :
    codeAny (model P w) callerA (.call (.ref fa) ⟨[.ref a], []⟩) (fun r s' => r = .ok (.ret (.bool true)) ∧ OldK s₁.heap s'.heap ∧ s'.os = s₁.os ∧ AllBare s'.gens) s₁ := by
  have rv := vals_ints hi
  have lenV := hi.length
  -- from an abstract heap in which nothing but the script may be tracked
  have core : ∀ H : Hp, Only H → SqL K H a (ns.map V.int) → HOk P w H s₁.heap → (∀ b, H b ≠ none → b = a) → (H a ≠ none → K.lookup a = none) →
      codeAny (model P w) callerA (.call (.ref fa) ⟨[.ref a], []⟩) (fun r s' => r = .ok (.ret (.bool true)) ∧ OldK s₁.heap s'.heap ∧ s'.os = s₁.os ∧ AllBare s'.gens) s₁ := by
    intro H hO hS hok hA hK
    have base_of : ∀ {b : Addr} {o : Obj}, s₁.heap.get? b = some o → H b = none → (hidT s₁.heap H).get? b = some o := fun e n => hidT_get e n
    have noA : ∀ {b : Addr} {o : Obj} {es : Array DictEntry} {ep : Nat}, s₁.heap.get? b = some o → o.data = .dict es ep → H b = none := fun {b o es ep} e d => by
      cases q : H b with
      | none => rfl
      | some u =>
        have e' : b = a := hA b (by rw [q]; simp)
        subst e'
        rw [ha] at e; cases e
        have d' : Data.seq vs.toArray _ = Data.dict es ep := d
        cases d'
    have nsK : ∀ {b : Addr} {m : Str → Option Value}, s₁.heap.Ns b m → (hidT s₁.heap H).Ns b m := fun {b m} ⟨o, es, ep, e, d, r⟩ => ⟨o, es, ep, base_of e (noA e d), d, r⟩
    have hKb : K.In (hidT s₁.heap H) := fun b o e => base_of (KX b o e) (by
      cases q : H b with
      | none => rfl
      | some u =>
        have e' : b = a := hA b (by rw [q]; simp)
        subst e'
        rw [hK (by rw [q]; simp)] at e; cases e)
    have hM : Mod K mg (hidT s₁.heap H) := ⟨hKb, nsK hns, ⟨mb, nsK hb, hbb⟩, let ⟨mc, h1, h2⟩ := hlim; ⟨mc, nsK h1, h2⟩⟩
    have e0 : Env0 P w K mg (hidT s₁.heap H) callerA [] s₁ H := ⟨rfl, hM, fun b o e => of_hidT e, Nat.le_of_eq (hidT_size _ _), trivial, fun b hb => absurd (show b ∈ ([] : List Addr) from hb) (by simp), hok, .of_eq hg⟩
    refine codeAny_mono ((F _ hKb (nsK hns)).run callerA [] s₁ H ⟨[.ref a], []⟩ [.ref a] [.ref a] _ _ hr e0 (hbind s₁ (.ref a)) (.cons rfl .nil) (hsp H hO hS)) fun r s' h => ?_
    cases r with
    | error e => exact (hCX H e s' h).elim
    | ok fl =>
      cases fl with
      | next => exact False.elim h
      | brk => exact False.elim h
      | cont => exact False.elim h
      | ret u =>
        obtain ⟨v, H', os, bare, un, hok', r', q⟩ := h
        have q' : v = .bl true := q
        subst q'
        obtain rfl : u = Value.bool true := r'
        refine ⟨rfl, OldK.of_keep fun b o e => ?_, os, bare⟩
        cases q : H b with
        | none => exact un.keep b o e q (by intro z; exact absurd (show b ∈ ([] : List Addr) from z) (by simp)) (by simp)
        | some u =>
          rcases hO b with z | ⟨ob, xs, z⟩
          · rw [q] at z; cases z
          · have z2 := un.frzs b ob _ z
            obtain ⟨e1, _⟩ := hok b _ z
            obtain ⟨e2, _⟩ := hok' b _ z2
            rw [e] at e1; cases e1
            exact e2
  cases hk : K.lookup a with
  | some o =>
    -- the script is one of the module's own objects
    have e := KX a o hk
    rw [ha] at e
    cases e
    refine core (fun _ => none) (fun _ => .inl rfl) (.inr ⟨_, vs.toArray, _, hk, rfl, rfl, rfl, by rw [List.size_toArray, lenV]; exact hl, by simpa using rv⟩) (fun b u z => by have z' : (none : Option HO) = some u := z; cases z') (fun b z => absurd rfl z) fun z => absurd rfl z
  | none =>
    refine core (fun b => if b = a then some (.frz { cls := .type "list", data := .seq vs.toArray } (.lst (ns.map V.int))) else none) (fun b => ?_) (.inl (.inr ⟨{ cls := .type "list", data := .seq vs.toArray }, if_pos rfl⟩)) (fun b u z => ?_) (fun b z => ?_) fun _ => hk
    · by_cases hb : b = a
      · exact .inr ⟨_, _, if_pos hb⟩
      · exact .inl (if_neg hb)
    · by_cases hb : b = a
      · have z' := (if_pos hb).symm.trans z
        cases z'
        subst hb
        exact ⟨ha, by rw [List.length_map]; exact hl, vs, _, rv, ha⟩
      · have z' := (if_neg hb).symm.trans z
        cases z'
    · by_cases hb : b = a
      · exact hb
      · exact absurd (if_neg hb) z
end L2
namespace L2
open PySem PySem.Spec PyProof.Rows
theorem walk_of {l : PySem.W.OpenLaw} {n k : Nat} {q : Program} {loose : List Str} {XP : (Str → Option Value) → Heap → Prop} {YP : World → Heap → Prop} {d : DefRec} {K : Params → PySem.W.Frag} {CX : World → CXT} {sp : World → Sp} {x : Str}
    (hn : l.most = some n) (hn2 : n ≤ sizeLine) (hdf : d.params.defaults = []) (hr : Room k callerA)
    (hY : ∀ (w : World) (h : Heap), YP w h → (K w.params).In h)
    (F : ∀ (w : World) (mg : Str → Option Value) (fa : Addr) (h : Heap), (K w.params).In h → h.Ns mainGlobals mg → mg d.name = some (.ref fa) →
      ∃ fd : FuncData, (∀ (s : Shared) (u : Value), BindsTo s fd ⟨[u], []⟩ [(x, u)]) ∧
        ∀ base : Heap, (K w.params).In base → base.Ns mainGlobals mg → FnOk l.prog w (K w.params) mg base (CX w) k fa fd [x] (sp w))
    (hsp : ∀ (w : World) (H : Hp) (a : Addr) (ns : List Int), ns.length ≤ n → Only H → SqL (K w.params) H a (ns.map V.int) → sp w [.ref a] H (fun v _ => v = .bl true) fun _ _ _ => False)
    (hCX : ∀ (w : World) (H : Hp) (s : Shared) (e : Value) (s' : Shared), CX w [] H s (fun _ _ _ => False) e s' → False) :
    PySem.W.WalkO q loose XP YP l.row.toRowW d [] (fun f vs => PySem.call f vs) := by
  refine Att.attach_call hn hdf fun w s₀ s₁ mg mb fa o pm cd doc a vs ns G Y ho hd hcd hmg hobj hints hlen hg => ?_
  have KX := hY w _ Y
  obtain ⟨fd, hb, hF⟩ := F w mg fa _ KX G.T.g hmg
  exact law_call KX G.T.g G.T.b G.T.builtins G.T.nolimit hg hobj hints (Nat.le_trans hlen hn2) hr hF hb (fun H hO hS => hsp w H a ns hlen hO hS) fun H e s' => hCX w H s₁ e s'
end L2
namespace L2
open PySem PySem.Spec PyProof.Rows
def defArgs (s : Stmt) : Arguments := match s with
  | .FunctionDef _ a _ _ _ _ _ _ _ _ => a
  | _ => { posonlyargs := [], args := [], vararg := none, kwonlyargs := [], kw_defaults := [], kwarg := none, defaults := [] }
def defBody (s : Stmt) : List Stmt := match s with
  | .FunctionDef _ _ b _ _ _ _ _ _ _ => b
  | _ => []
def defScope (s : Stmt) : Scope := match s with
  | .FunctionDef _ _ _ _ _ _ sc _ _ _ => sc
  | _ => { kind := .function, names := [], isGenerator := false, isCoroutine := false }
abbrev CX0 : CXT := fun _ _ _ _ _ _ => False
abbrev E0 : XK := fun _ _ _ => False
structure Fun (K : PySem.W.Frag) (x qual : Str) (st : Stmt) (f : Addr) (fd : FuncData) : Prop where
  ex : ∃ (oc : Value) (od : Option Addr) (kV doc pm : Value) (an : Option Addr) (cdv ct : Value) (osl : Array (Option Value)),
    fd = PySem.W.fnOf x qual (defArgs st) (defBody st) (defScope st) .none kV doc pm an cdv ct ∧ K.lookup f = some ⟨oc, od, .func fd, osl⟩ ∧ PySem.W.codeIn K cdv qual = true
  kp : PySem.W.keepIn K (.ref f) = true
section
variable {P : Program} {w : World} {K : PySem.W.Frag} {mg : Str → Option Value} {base : Heap}
theorem Fun.binds {x qual : Str} {st : Stmt} {f : Addr} {fd : FuncData} {ps : List Str} (F : Fun K x qual st f fd)
    (h : ∀ (kV doc pm : Value) (an : Option Addr) (cdv ct : Value) (us : List Value), us.length = ps.length → bindArgs (PySem.W.fnOf x qual (defArgs st) (defBody st) (defScope st) .none kV doc pm an cdv ct) ⟨us, []⟩ = pure (ps.zip us)) : Binds K fd ps [] := by
  obtain ⟨oc, od, kV, doc, pm, an, cdv, ct, osl, rfl, lk, hcd⟩ := F.ex
  exact .all (h kV doc pm an cdv ct)
theorem fun_mk {x qual : Str} {st : Stmt} {f : Addr} {oc : Value} {od an : Option Addr} {osl : Array (Option Value)} {kV doc pm cdv ct : Value} (l : K.lookup f = some ⟨oc, od, .func (PySem.W.fnOf x qual (defArgs st) (defBody st) (defScope st) .none kV doc pm an cdv ct), osl⟩)
    (c : PySem.W.codeIn K cdv qual = true) (k : PySem.W.keepIn K (.ref f) = true) : Fun K x qual st f (PySem.W.fnOf x qual (defArgs st) (defBody st) (defScope st) .none kV doc pm an cdv ct) := ⟨⟨oc, od, kV, doc, pm, an, cdv, ct, osl, rfl, l, c⟩, k⟩
end
section
variable {X : Cx}
theorem pv (i : Nat) {x : Str} {pos : Pos} (hN : X.N[i]? = some x := by rfl) (hv : Vis X.env.scope x := by first | exact Or.inl rfl | exact Or.inr (Or.inl rfl) | exact Or.inr (Or.inr rfl)) (hd : (x == ("__debug__" : Str)) = false := by decide)
    (hcd : (x == ("__classdict__" : Str)) = false := by decide) : PE X (.Name x pos) (tVar i) := pe_var hN hv hd hcd
end
def Same (H H' : Hp) : Prop := ∀ b o, H b = some o → H' b = some o
theorem Same.refl (H : Hp) : Same H H := fun _ _ h => h
theorem Same.trans {H H1 H2 : Hp} (a : Same H H1) (b : Same H1 H2) : Same H H2 := fun c o h => b c o (a c o h)
theorem Same.free {H H' : Hp} (e : Same H H') {l : Addr} (h : H' l = Option.none) : H l = Option.none := by
  cases q : H l with
  | none => rfl
  | some o =>
    rw [e l o q] at h
    cases h
theorem Same.seq {K : PySem.W.Frag} {H H' : Hp} {a : Addr} {xs : List V} (e : Same H H') (h : SqL K H a xs) : SqL K H' a xs := by
  rcases h with (h | ⟨o, h⟩) | h
  · exact .inl (.inl (e _ _ h))
  · exact .inl (.inr ⟨o, e _ _ h⟩)
  · exact .inr h
end L2
namespace L2
open PySem PySem.Spec PyProof.Rows
section
variable {X : Cx}
end
section
variable {κ : Type} [DecidableEq κ]
end
end L2
set_option Elab.async false
set_option linter.all false
set_option maxRecDepth 100000
namespace L2
open PySem PySem.Spec PyProof.Rows
def Cx.comp (X : Cx) (Nc : List Str) (scope : Scope) (cl : List (Str × Addr)) (C : Addr) (s₂ : Shared) (H₁ : Hp) (fp : List Addr) : Cx where
  prog := X.prog
  w := X.w
  K := X.K
  mg := X.mg
  base := X.base
  A := X.A
  N := Nc
  s₀ := s₂
  H₀ := H₁
  env := compEnvC scope cl C X.env
  outer := X.stack
  stack := X.stack
  ex := fp
  fn := fun _ => false
  calm := X.calm
  pn := []
  xe := fun _ _ => False
structure CompTxt (X : Cx) (Nc : List Str) (own : Nat) (js : List Nat) (scope : Scope) (cl : List (Str × Addr)) : Prop where
  clos : closureFor scope X.env = pure cl
  kind : scope.kind = .function
  nocell : ∀ y ∈ scope.names, y.2 ≠ .cell
  names : ∀ y ∈ scope.names, y.2 = .local → scope.names.lookup y.1 = some .local
  cells : ∀ x c, cl.lookup x = some c → X.env.cells.lookup x = some c
  has : ∀ x, ((relabel scope X.env).names.lookup x = some .cell ∨ (relabel scope X.env).names.lookup x = some .free) → ∃ c, cl.lookup x = some c
  len : Nc.length = own + js.length
  outer : ∀ i x, Nc[own + i]? = some x → ∃ j, js[i]? = some j ∧ X.N[j]? = some x ∧ X.env.scope.names.lookup x = some .cell ∧ (relabel scope X.env).names.lookup x = some .cell
def compStart0 (own : Nat) (js : List Nat) (σ : St) : St := List.replicate own none ++ js.map fun j => (σ[j]?).getD none
def tComp (own : Nat) (js : List Nat) (wi : TI) (g : TG) (tc : TT) (te : TE) : TE := fun σ H Q => wi σ H fun J H1 => ∀ p, H1 p = none →
  ∃ W : Nat → Nat → List V → St → Hp → Prop, (∃ m, W 0 m [] (compStart0 own js σ) (upd H1 p (.lst []))) ∧ ∀ i m ys σc Hc, W i m ys σc Hc →
    (J.stop i Hc ∧ Q (.ref p) Hc) ∨ (J.go i Hc ∧ ∀ x H', J.yld i Hc x H' → g x σc H' fun σ2 H2 => tc σ2 H2 fun b H3 =>
      if b = true then te σ2 H3 fun y H4 => H4 p = some (.lst ys) ∧ ys.length < sizeLine ∧ ∃ m', m' < m ∧ W (i + 1) m' (ys ++ [y]) σ2 (upd H4 p (.lst (ys ++ [y])))
      else ∃ m', m' < m ∧ W (i + 1) m' ys σ2 H3)
def PTs (X : Cx) (ifs : List Expr) (t : TT) : Prop :=
  ∀ (pins : List (Addr × Obj)) (s : Shared) (σ : St) (H : Hp) (Q : Bool → Hp → Prop), Inv X pins σ H s → t σ H Q →
    wpAny (model X.prog X.w) X.A (forIn ifs true fun c r => if r = true then do let ok ← isTrue c X.env (eval c X.env); pure (ForInStep.yield ok) else pure (ForInStep.yield r)) (TP X pins σ Q) X.xe s
def tYes : TT := fun _ H Q => Q true H
theorem pts_nil {X : Cx} : PTs X [] tYes := fun pins s σ H Q I h => wpAny_tests_nil ⟨H, I, h⟩
section
variable {prog : Program} {w : World} {A : Around} {E : Value → Shared → Prop} {R : Result → Shared → Prop} {s : Shared}
theorem compLoop_go {elt target iter : Expr} {ifs : List Expr} {scope : Scope} {pos : Pos} {it acc : Value} {env : Env} (I : Nat → Shared → Prop)
    (turn : ∀ n s, I n s → wpAny (model prog w) A (pyNext it) (fun r s₁ => match r with
      | none => R (.ok .next) s₁
      | some v => wpAny (model prog w) A (letOwnedTupleGo target it v) (fun _ s₁' => wpAny (model prog w) A (assign target env v) (fun _ s₂ =>
          wpAny (model prog w) A (forIn ifs true fun c r => if r = true then do let ok ← isTrue c env (eval c env); pure (ForInStep.yield ok) else pure (ForInStep.yield r)) (fun ok s₃ =>
            if ok = true then wpAny (model prog w) A (eval elt env) (fun x s₄ =>
              wpAny (model prog w) A (call (.builtin "list.append") [acc, x]) (fun _ s₅ => ∃ m, m < n ∧ I m s₅) (fun _ _ => False) s₄) (fun _ _ => False) s₃
            else ∃ m, m < n ∧ I m s₃) (fun _ _ => False) s₂) (fun _ _ => False) s₁') (fun _ _ => False) s₁) (fun _ _ => False) s)
    (n : Nat) (h : I n s) :
    codeAny (model prog w) A (.compLoop (.ListComp elt [⟨target, iter, ifs, 0⟩] scope pos) 0 it acc env) R s := by
  refine codeAny_loop rfl I (fun n s hI => ?_) n h
  show wpAny _ A ((compTurn (.ListComp elt [⟨target, iter, ifs, 0⟩] scope pos) 0 it acc env).onRaise (fun x => do noteFrame x env; theTreesLotGoes x)) _ _ s
  refine wpAny_noted ?_
  rw [compTurn_list]
  refine wpAny_bind (wpAny_standAt (wpAny_bind (wpAny_mono (turn n s hI) (fun r s₁ h₁ => ?_) fun _ _ h' => h'.elim)))
  cases r with
  | none => exact wpAny_pure h₁
  | some v =>
    refine wpAny_bind (wpAny_mono h₁ (fun _ s₁' h₁' => ?_) fun _ _ h' => h'.elim)
    refine wpAny_bind (wpAny_mono h₁' (fun _ s₂ h₂ => wpAny_bind (wpAny_mono h₂ (fun ok s₃ h₃ => ?_) fun _ _ h' => h'.elim)) fun _ _ h' => h'.elim)
    cases ok with
    | true =>
      rw [if_pos rfl] at h₃
      simp only [if_true]
      exact wpAny_bind (wpAny_bind (wpAny_mono h₃ (fun x s₄ h₄ => wpAny_bind (wpAny_mono h₄ (fun _ s₅ h₅ => wpAny_pure (wpAny_pure ⟨rfl, h₅⟩)) fun _ _ h' => h'.elim)) fun _ _ h' => h'.elim))
    | false =>
      rw [if_neg Bool.false_ne_true] at h₃
      simp only [Bool.false_eq_true, if_false]
      first
        | exact wpAny_pure ⟨rfl, h₃⟩
        | exact wpAny_bind (wpAny_pure (wpAny_pure ⟨rfl, h₃⟩))
end
end L2
set_option Elab.async false
set_option linter.all false
set_option maxRecDepth 100000
namespace L2
open PySem PySem.Spec PyProof.Rows
section
variable {X : Cx} {Nc : List Str} {own : Nat} {js : List Nat} {scope : Scope} {cl : List (Str × Addr)}
theorem comp_ok {pins : List (Addr × Obj)} {σ : St} {H₁ : Hp} {s₂ : Shared} {C : Addr} {fp : List Addr} (T : CompTxt X Nc own js scope cl) (I : Inv X pins σ H₁ s₂) (hC : s₂.heap.objs.size ≤ C)
    (f1 : ∀ b ∈ fp, FpOk X pins H₁ b) (hlt : ∀ b ∈ fp, b < s₂.heap.objs.size) : (X.comp Nc scope cl C s₂ H₁ fp).Ok where
  mod := I.ok.mod
  kind := by show (relabel scope X.env).kind = _; exact T.kind
  glob := I.ok.glob
  blt := I.ok.blt
  above := hC
  inj := fun x y c h1 h2 => I.ok.inj x y c (T.cells x c h1) (T.cells y c h2)
  has := fun x h => T.has x h
  cab := fun x c h => by cases h
  hd := I.ok.hd
  frames := I.ok.frames
  stk := .inl rfl
  exf := fun b hb => ⟨Nat.ne_of_lt (Nat.lt_of_lt_of_le (hlt b hb) hC), fun x c h => (f1 b hb).2.2.2.2.1 x c (T.cells x c h)⟩
  bs := I.bs
  bsz := Nat.le_trans I.ok.bsz I.sz
  noex := fun b o e hb => by
    rcases (f1 b hb).2.2.2.1 with z | z
    · exact I.ok.noex b o e z
    · exact absurd (Nat.lt_of_lt_of_le (Heap.lt_size (I.ok.bs b o e).1) z) (Nat.lt_irrefl _)
  exfs := fun b hb hs => by
    rcases List.mem_cons.mp (I.stkSub b hs) with z | z
    · exact (f1 b hb).2.1 z
    · exact (f1 b hb).2.2.1 z
  funs := I.stack
  frf := I.stkFree
theorem comp_inv {pins : List (Addr × Obj)} {σ : St} {H₁ : Hp} {s₂ : Shared} {C D : Addr} {fp : List Addr} {h₁ : Heap} {t : Nat} {m : Str → Option Value} (T : CompTxt X Nc own js scope cl) (I : Inv X pins σ H₁ s₂) (hC : s₂.heap.objs.size ≤ C)
    (hD : s₂.heap.objs.size ≤ D) (hDC : D ≠ C) (f1 : ∀ b ∈ fp, FpOk X pins H₁ b) (hlt : ∀ b ∈ fp, b < s₂.heap.objs.size) (old : ∀ b o, s₂.heap.get? b = some o → h₁.get? b = some o) (hns : h₁.Ns C m)
    (hacc : ∃ n, h₁.get? D = some { cls := .type "list", data := .seq ([] : List Value).toArray n }) :
    Inv (X.comp Nc scope cl C s₂ H₁ fp) [] (compStart0 own js σ) (upd H₁ D (.lst [])) { s₂ with heap := h₁, toks := t } := by
  obtain ⟨na, hacc⟩ := hacc
  have cellK : ∀ c v, s₂.heap.IsCell c v → h₁.IsCell c v := fun c v ⟨o, ho, hd⟩ => ⟨o, old c o ho, hd⟩
  refine ⟨comp_ok T I hC f1 hlt, rfl, I.bare, Un.laid old hD (I.hok.fresh hD), ⟨m, hns, fun i x v e1 e2 e3 => ?_⟩, fun x c e => ?_, ?_, fun x c e => ?_, fun p hp => (by cases hp), I.hok.laid old hD ?_, ?_⟩
  · have hN : Nc[i]? = some x := e1
    have hσ : (compStart0 own js σ)[i]? = some (some v) := e2
    unfold compStart0 at hσ
    by_cases hi : i < own
    · rw [List.getElem?_append_left (by simpa using hi), List.getElem?_replicate] at hσ
      simp [hi] at hσ
    · obtain ⟨k, rfl⟩ : ∃ k, i = own + k := ⟨i - own, by omega⟩
      rw [List.getElem?_append_right (by simp)] at hσ
      simp only [List.length_replicate, Nat.add_sub_cancel_left, List.getElem?_map] at hσ
      obtain ⟨j, hj, hx, hk, hr⟩ := T.outer k x hN
      rw [hj] at hσ
      replace hσ : some (σ[j]?.getD none) = some (some v) := hσ
      have hσj : σ[j]? = some (some v) := by
        cases q : σ[j]? with
        | none => rw [q] at hσ; simp at hσ
        | some y => rw [q] at hσ; simpa using hσ
      obtain ⟨m0, hn0, hl0⟩ := I.loc
      obtain ⟨u, ru, lk⟩ := hl0 j x v hx hσj (.inr (.inl hk))
      refine ⟨u, ru, .inr ⟨.inl hr, ?_⟩⟩
      rcases lk with ⟨z, _⟩ | ⟨_, c, hc, hcell⟩
      · have z' : X.env.scope.names.lookup x = some .local := z
        rw [hk] at z'; cases z'
      · obtain ⟨c', hc'⟩ := T.has x (.inl hr)
        have := T.cells x c' hc'
        rw [hc] at this; cases this
        exact ⟨c, hc', cellK c _ hcell⟩
  · obtain ⟨v, z⟩ := I.cell x c (T.cells x c e)
    exact ⟨v, cellK c v z⟩
  · show upd H₁ D (.lst []) C = none
    rw [upd_ne (Ne.symm hDC)]
    exact I.hok.fresh hC
  · have e' := T.cells x c e
    obtain ⟨v, o, ho, _⟩ := I.cell x c e'
    rw [upd_ne (Nat.ne_of_lt (Nat.lt_of_lt_of_le (Heap.lt_size ho) hD))]
    exact I.freeC x c e'
  · exact ⟨Nat.zero_le _, [], na, .nil, hacc⟩
  · show (compStart0 own js σ).length = Nc.length
    rw [T.len]
    simp [compStart0]
theorem comp_back {pins : List (Addr × Obj)} {σ σc : St} {H₁ H' : Hp} {s₂ s' : Shared} {C : Addr} {fp : List Addr} {h' : Heap} (I : Inv X pins σ H₁ s₂) (hC : s₂.heap.objs.size ≤ C)
    (f1 : ∀ b ∈ fp, FpOk X pins H₁ b) (I' : Inv (X.comp Nc scope cl C s₂ H₁ fp) [] σc H' s') (hs : Heap.SameBut C s'.heap h') : Inv X pins σ H' { s' with heap := h' } := by
  have u : Un (frs X.stack) fp H₁ H' s₂.heap s'.heap := I'.base
  have ne : ∀ b o, s₂.heap.get? b = some o → b ≠ C := fun b o e => Nat.ne_of_lt (Nat.lt_of_lt_of_le (Heap.lt_size e) hC)
  have k : ∀ b o, b ≠ C → s'.heap.get? b = some o → h'.get? b = some o := fun b o n e => hs.extBut b o n e
  have u' : Un (frs X.stack) fp H₁ H' s₂.heap h' := ⟨fun b o e n hb hx => k b o (ne b o e) (u.keep b o e n hb hx), fun b o e n hb hx => let ⟨sl, q⟩ := u.slot b o e n hb hx; ⟨sl, k b _ (ne b o e) q⟩,
    u.free, fun b o e hx => let ⟨o', q⟩ := u.there b o e hx; ⟨o', k b o' (ne b o e) q⟩, u.tups, u.frzs, u.tbls⟩
  have hfree : H' C = none := I'.free
  have hok' : HOk X.prog X.w H' h' := fun a o e => (I'.hok a o e).stay (fun b v hb q => k b v (fun z => by
    rcases hb with y | y
    · rw [y] at z; rw [z, hfree] at e; cases e
    · rw [z, hfree] at y; cases y) q) (fun _ q => q) fun _ _ q => q
  exact I.call' (s' := { s' with heap := h' }) (ch := fp) I'.os u' hok' I'.bare fun b hb => ⟨(f1 b hb).2.2.2.1, (f1 b hb).2.1, (f1 b hb).2.2.2.2.1, (f1 b hb).2.2.2.2.2⟩
theorem pe_comp {elt target iter : Expr} {ifs : List Expr} {pos : Pos} {wi : TI} {g : TG} {tc : TT} {te : TE} (hc : X.calm = true) (T : CompTxt X Nc own js scope cl)
    (hi : PI X target iter wi) (hg : ∀ C s₂ H₁ fp, PG (X.comp Nc scope cl C s₂ H₁ fp) target g) (ht : ∀ C s₂ H₁ fp, PTs (X.comp Nc scope cl C s₂ H₁ fp) ifs tc)
    (he : ∀ C s₂ H₁ fp, PE (X.comp Nc scope cl C s₂ H₁ fp) elt te) (hs : ∀ x, foldedSetIterable iter X.env x = pure x := by intro _; rfl) :
    PE X (.ListComp elt [⟨target, iter, ifs, 0⟩] scope pos) (tComp own js wi g tc te) := by
  intro pins s σ H Q I h
  rw [eval_ListComp]
  refine wpAny_comprehension_free (use := none) rfl hs T.clos T.kind T.names (thn (hi pins s σ H _ I h) fun v s1 h1 => thn h1 fun itv s2 h2 => ?_)
  obtain ⟨it, fp, tn, J, H1, rfl, I1, Tn, st, f1, R⟩ := h2
  have hfp : ∀ b ∈ fp, b < s2.heap.objs.size := fun b hb => let ⟨o, e, _⟩ := Tn.obj _ _ st b hb; Heap.lt_size e
  refine wpAny_newObj_type (wpAny_newFunctionEnv T.nocell (by intro y hy; simp at hy) (fun h₁ hns₁ hsb₁ => ?_) T.kind)
  dsimp only at hns₁ hsb₁ ⊢
  generalize hH2 : s2.heap.push { cls := .type "list", dict := none, data := .seq ([] : List Value).toArray } = H2 at hns₁ hsb₁ ⊢
  have hC : H2.objs.size = s2.heap.objs.size + 1 := by rw [← hH2, Heap.size_push]
  have hDC : s2.heap.objs.size ≠ H2.objs.size := by rw [hC]; exact Nat.ne_of_lt (Nat.lt_succ_self _)
  have hCle : s2.heap.objs.size ≤ H2.objs.size := by rw [hC]; exact Nat.le_succ _
  have below : ∀ b, b < s2.heap.objs.size → b ≠ H2.objs.size := fun b hb => by rw [hC]; exact Nat.ne_of_lt (Nat.lt_succ_of_lt hb)
  have old : ∀ b o, s2.heap.get? b = some o → h₁.get? b = some o := fun b o e => hsb₁.extBut b o (below b (Heap.lt_size e)) (Heap.get?_push_of_some _ (hH2 ▸ Heap.get?_push_of_some _ e))
  have hacc : ∃ n, h₁.get? s2.heap.objs.size = some { cls := .type "list", data := .seq ([] : List Value).toArray n } := ⟨_, hsb₁.extBut _ _ hDC (Heap.get?_push_of_some _ (hH2 ▸ Heap.get?_push_size _ rfl))⟩
  have st₁ : tn 0 h₁ := Tn.keep _ _ _ st fun b _ o e => old b o e
  obtain ⟨W, ⟨m0, w0⟩, turn⟩ := R s2.heap.objs.size I1.fresh
  have Ic := comp_inv (t := s2.toks + ([] : List (Str × Value)).length) T I1 hCle (Nat.le_refl _) hDC f1 hfp old hns₁ hacc
  generalize hXc : X.comp Nc scope cl H2.objs.size s2 H1 fp = Xc at Ic
  have stat : ∀ {H' : Hp}, (∀ b ∈ fp, H' b = none) → ∀ b ∈ fp, FpOk Xc [] H' b := fun {H'} hn b hb => by
    subst hXc
    exact ⟨hn b hb, below b (hfp b hb), (comp_ok T I1 hCle f1 hfp).exfs b hb, .inl hb, fun x c e => (f1 b hb).2.2.2.2.1 x c (T.cells x c e), fun p hp => by cases hp⟩
  have fr0 : ∀ b ∈ fp, upd H1 s2.heap.objs.size (.lst []) b = none := fun b hb => by
    rw [upd_ne (Nat.ne_of_lt (hfp b hb))]
    exact (f1 b hb).1
  have calmc : Xc.calm = true := by subst hXc; exact hc
  have loop : ∀ s₃ : Shared, s₃ = { s2 with heap := h₁, toks := s2.toks + ([] : List (Str × Value)).length } →
      codeAny (model X.prog X.w) X.A (.compLoop (.ListComp elt [⟨target, iter, ifs, 0⟩] scope pos) 0 (.ref it) (.ref s2.heap.objs.size) (compEnvC scope cl H2.objs.size X.env))
        (compPost (model X.prog X.w) X.A X.xe none (EP X pins σ Q) (.ref s2.heap.objs.size) H2.objs.size) s₃ := by
    rintro s₃ rfl
    refine compLoop_go (fun n s' => ∃ i ys σ' H', Inv Xc [] σ' H' s' ∧ tn i s'.heap ∧ (∀ b ∈ fp, H' b = none) ∧ W i n ys σ' H') ?_ m0 ⟨0, [], _, _, Ic, st₁, fr0, w0⟩
    rintro n s3 ⟨i, ys, σ3, H3, I3, st3, fr3, w3⟩
    rcases turn i n ys σ3 H3 w3 with ⟨stop, q⟩ | ⟨go, step⟩
    · subst hXc
      refine thn (Tn.done (X.comp Nc scope cl H2.objs.size s2 H1 fp) rfl rfl rfl hc i [] s3 σ3 H3 _ I3 (stat fr3) st3 stop) fun r s4 ⟨hr, I4⟩ => ?_
      subst hr
      obtain ⟨m4, hn4, _⟩ := id I4.loc
      exact ⟨m4, hn4, fun h' hs' => ⟨.ref s2.heap.objs.size, H3, comp_back I1 hCle f1 I4 hs', rfl, q⟩⟩
    · subst hXc
      refine thn (Tn.item (X.comp Nc scope cl H2.objs.size s2 H1 fp) rfl rfl rfl hc i [] s3 σ3 H3 _ I3 (stat fr3) st3 go) fun r s4 ⟨u, hr, h4⟩ => ?_
      subst hr
      refine thn h4 fun _ s5 ⟨x, H5, I5, r5, y5, st5, fr5⟩ => ?_
      have I5' := I5.pinned (stat fr5) (Tn.obj _ _ st5)
      have back : ∀ {σ7 : St} {H7 : Hp} {s7 : Shared}, Inv (X.comp Nc scope cl H2.objs.size s2 H1 fp) ([] ++ pinsAt fp s5.heap) σ7 H7 s7 → Inv (X.comp Nc scope cl H2.objs.size s2 H1 fp) [] σ7 H7 s7 ∧ tn (i + 1) s7.heap ∧ ∀ b ∈ fp, H7 b = none := fun {σ7 H7 s7} I7 => by
        refine ⟨I7.unpinned, Tn.keep _ _ _ st5 fun b hb o e => (I7.pin (b, o) (List.mem_append_right _ (List.mem_append_right _ (mem_pinsAt hb e)))).1, fun b hb => ?_⟩
        obtain ⟨o, e, d⟩ := Tn.obj _ _ st5 b hb
        exact (I7.pin (b, o) (List.mem_append_right _ (List.mem_append_right _ (mem_pinsAt hb e)))).2.1
      refine thn (hg _ _ _ _ _ s5 σ3 H5 x u _ I5' r5 (step x H5 y5)) fun _ s6 ⟨σ6, H6, I6, q6⟩ => ?_
      refine thnT (ht _ _ _ _ _ s6 σ6 H6 _ I6 q6) fun ok s7 H7 I7 q7 => ?_
      cases ok with
      | false =>
        rw [if_neg Bool.false_ne_true] at q7 ⊢
        obtain ⟨m', hm, w7⟩ := q7
        obtain ⟨J1, J2, J3⟩ := back I7
        exact ⟨m', hm, i + 1, ys, σ6, H7, J1, J2, J3, w7⟩
      | true =>
        rw [if_pos rfl] at q7 ⊢
        refine thnE (he _ _ _ _ _ s7 σ6 H7 _ I7 q7) fun y s8 yv H8 I8 r8 ⟨hp8, hl8, m', hm, w8⟩ => ?_
        refine thn (mt_append _ s8 σ6 H8 (.ref s2.heap.objs.size) [yv] _ [y] (fun v' H' => W (i + 1) m' (ys ++ [yv]) σ6 H') I8 rfl (.cons r8 .nil) ⟨_, ys, yv, rfl, rfl, hp8, hl8, w8⟩) fun v9 s9 ⟨_, H9, I9, _, w9⟩ => ?_
        obtain ⟨J1, J2, J3⟩ := back I9
        exact ⟨m', hm, i + 1, ys ++ [yv], σ6, H9, J1, J2, J3, w9⟩
  exact codeAny_compStart_list (loop _ rfl) (Tn.self _ 0 _ _ _ st₁ (loop _ rfl))
end
end L2
set_option Elab.async false
set_option linter.all false
set_option maxRecDepth 100000
namespace L2
open PySem PySem.Spec PyProof.Rows
section
variable {X : Cx}
theorem op_mulB : OpR X (binaryOp .Mult) (rI (fun i j => IntMulOk i j) fun i j => .int (i * j)) := opI fun i j t u s Q E h q => PyProof.Rows.mul_int q h
def rIsinst (K : PySem.W.Frag) : List V → Hp → VK → Prop := fun xs H Q => ∃ x c t b, xs = [x, c] ∧ TyOf K H x t ∧ (∀ cv, RelV c cv → PySem.W.kitOne K t cv = some b) ∧ Q (.bl b) H
theorem call_isinst : CallR X (.builtin "isinstance") (rIsinst X.K) := by
  intro pins s σ H xs us Q I r h
  obtain ⟨x, c, t, b, rfl, ty, hk, q⟩ := h
  obtain ⟨u, cv, rfl, ru, rc⟩ := vals2 r
  exact isinst_ok I ru ty (hk cv rc) fun tk => ⟨.bl b, H, I.tok tk, rfl, q⟩
end
mutual
inductive Deep (K : PySem.W.Frag) (H : Hp) : V → PyData → Prop
  | non : Deep K H .non .none
  | bl (b : Bool) : Deep K H (.bl b) (.bool b)
  | int (i : Int) : Deep K H (.int i) (.int i)
  | lst {a : Addr} {xs : List V} {ds : List PyData} : SqL K H a xs → DeepAll K H xs ds → Deep K H (.ref a) (.list ds)
  | tup {a : Addr} {xs : List V} {ds : List PyData} : SqT K H a xs → DeepAll K H xs ds → Deep K H (.ref a) (.tuple ds)
inductive DeepAll (K : PySem.W.Frag) (H : Hp) : List V → List PyData → Prop
  | nil : DeepAll K H [] []
  | cons {x : V} {d : PyData} {xs : List V} {ds : List PyData} : Deep K H x d → DeepAll K H xs ds → DeepAll K H (x :: xs) (d :: ds)
end
mutual
theorem Deep.reads {X : Cx} {pins : List (Addr × Obj)} {σ : St} {H : Hp} {s : Shared} (I : Inv X pins σ H s) : ∀ {x : V} {d : PyData} {u : Value}, Deep X.K H x d → RelV x u → (∃ as, Reads s.heap u d as) ∧ d.canLay0 = true
  | _, _, _, .non, r => by cases (show _ = Value.none from r); exact ⟨⟨_, .none⟩, by simp [PyData.canLay0]⟩
  | _, _, _, .bl b, r => by cases (show _ = Value.bool b from r); exact ⟨⟨_, .bool b⟩, by simp [PyData.canLay0]⟩
  | _, _, _, .int i, r => by obtain ⟨t, e⟩ := (show ∃ t, _ = Value.int i t from r); cases e; exact ⟨⟨_, .int i t⟩, by simp [PyData.canLay0]⟩
  | _, _, _, .lst (a := a) h hs, r => by
    cases (show _ = Value.ref a from r)
    obtain ⟨its, rv, ⟨o, n, e, c, _, dd⟩, hz⟩ := I.list h
    obtain ⟨⟨as, ra⟩, cl⟩ := DeepAll.reads I hs rv
    exact ⟨⟨_, .list e c dd (by simpa using ra)⟩, by simpa [PyData.canLay0] using cl⟩
  | _, _, _, .tup (a := a) h hs, r => by
    cases (show _ = Value.ref a from r)
    obtain ⟨its, rv, ⟨o, e, c, n, dd⟩, hz⟩ := I.tuple h
    obtain ⟨⟨as, ra⟩, cl⟩ := DeepAll.reads I hs rv
    exact ⟨⟨_, .tuple e c dd (by simpa using ra)⟩, by simpa [PyData.canLay0] using cl⟩
theorem DeepAll.reads {X : Cx} {pins : List (Addr × Obj)} {σ : St} {H : Hp} {s : Shared} (I : Inv X pins σ H s) : ∀ {xs : List V} {ds : List PyData} {us : List Value}, DeepAll X.K H xs ds → Vals xs us → (∃ as, ReadsAll s.heap us ds as) ∧ PyData.canLayAll0 ds = true
  | _, _, _, .nil, .nil => ⟨⟨_, .nil⟩, by simp [PyData.canLayAll0]⟩
  | _, _, _, .cons h hs, .cons r rs => by
    obtain ⟨⟨as, ra⟩, c1⟩ := Deep.reads I h r
    obtain ⟨⟨bs, rb⟩, c2⟩ := DeepAll.reads I hs rs
    exact ⟨⟨_, .cons ra rb⟩, by simp [PyData.canLayAll0, c1, c2]⟩
end
section
variable {X : Cx}
def rEqD (K : PySem.W.Frag) : R2 := fun x y H Q => ∃ d e, Deep K H x d ∧ Deep K H y e ∧ d.depth ≤ 40 ∧ Q (.bl (PyData.eqv d e)) H
def rNeD (K : PySem.W.Frag) : R2 := fun x y H Q => ∃ d e, Deep K H x d ∧ Deep K H y e ∧ d.depth ≤ 40 ∧ Q (.bl (!PyData.eqv d e)) H
theorem op_eqD (hu : X.A.units + 64 < cLine) : OpR X (compareOp .Eq) (rEqD X.K) := by
  intro pins s σ H x y v u Q I rx ry h
  obtain ⟨d, e, hd, he, hp, q⟩ := h
  obtain ⟨⟨as, ra⟩, ca⟩ := hd.reads I rx
  obtain ⟨⟨bs, rb⟩, cb⟩ := he.reads I ry
  exact PySem.SeqAt.compareEq_reads ra rb ca cb (by omega) ⟨.bl _, H, I, rfl, q⟩
theorem op_neD (hu : X.A.units + 64 < cLine) : OpR X (compareOp .NotEq) (rNeD X.K) := by
  intro pins s σ H x y v u Q I rx ry h
  obtain ⟨d, e, hd, he, hp, q⟩ := h
  obtain ⟨⟨as, ra⟩, ca⟩ := hd.reads I rx
  obtain ⟨⟨bs, rb⟩, cb⟩ := he.reads I ry
  exact PySem.SeqAt.compareNe_reads ra rb ca cb (by omega) ⟨.bl _, H, I, rfl, q⟩
end
end L2
set_option Elab.async false
set_option linter.all false
set_option maxRecDepth 100000
namespace L2
open PySem PySem.Spec PyProof.Rows
structure SubF (P : Program) (w : World) (l : Addr) (ob : Obj) (src : Heap → Array Value → Prop) (at' : Addr → Nat → Heap → Prop) : Prop where
  start : ∀ (A : Around) (s : Shared) (vs : Array Value) (Q : Value → Shared → Prop) (E : Value → Shared → Prop), src s.heap vs → Q (.ref s.heap.objs.size) { s with heap := s.heap.push ob } → wpAny (model P w) A (pyIter (.ref l)) Q E s
  first : ∀ it h, h.get? it = some ob → at' it 0 h
  atK : ∀ it i h h', at' it i h → (∀ o, h.get? it = some o → h'.get? it = some o) → at' it i h'
  srcK : ∀ h h' vs, src h vs → (∀ o, h.get? l = some o → h'.get? l = some o) → src h' vs
  obj : ∀ it i h, at' it i h → ∃ o, h.get? it = some o ∧ ∀ v, o.data ≠ .cell v
  item : ∀ (A : Around) (s : Shared) (it : Addr) (i : Nat) (vs : Array Value) (x : Value) (Q : Value → Shared → Prop) (E : Value → Shared → Prop), at' it i s.heap → src s.heap vs → vs[i]? = some x →
    (∀ h', at' it (i + 1) h' → Heap.SameBut it s.heap h' → Q x { s with heap := h' }) → wpAny (model P w) A (Builtin.SmallTypes.nextOf (.ref it)) Q E s
  fin : ∀ (A : Around) (s : Shared) (it : Addr) (i : Nat) (vs : Array Value) (Q : Value → Shared → Prop) (E : Value → Shared → Prop), A.handled = none → at' it i s.heap → src s.heap vs → vs[i]? = none →
    (∀ h' e, Heap.ExtBut it s.heap h' → (∃ o, h'.get? e = some o ∧ o.cls = .type "StopIteration") → E (.ref e) { s with heap := h' }) → wpAny (model P w) A (Builtin.SmallTypes.nextOf (.ref it)) Q E s
theorem subF_list {P : Program} {w : World} (l : Addr) : SubF P w l { cls := .type "list_iterator", data := .fields #[.ref l, .int 0 0] } (fun h vs => h.IsList l vs) (fun it i h => h.IsListIter it l i) where
  start := fun A s vs Q E hl hq => wpAny_pyIter_list hl hq
  first := fun it h e => ⟨_, e, rfl, rfl⟩
  atK := fun it i h h' x k => x.at k
  srcK := fun h h' vs x k => x.at k
  obj := fun it i h x => by
    obtain ⟨o, ho, _, hd⟩ := x
    exact ⟨o, ho, fun v z => by rw [hd] at z; cases z⟩
  item := fun A s it i vs x Q E ha hs hx hq => wpAny_nextOf_list_item ha hs hx hq
  fin := fun A s it i vs Q E hh ha hs hx hq => wpAny_nextOf_list_end hh ha hs hx hq
section
variable {P : Program} {w : World} {A : Around} {E : Value → Shared → Prop} {s : Shared}
theorem nextOf_tuple_item {it t : Addr} {i : Nat} {vs : Array Value} {x : Value} {Q : Value → Shared → Prop} (hi : s.heap.IsTupleIter it t i) (ht : s.heap.IsTuple t vs) (hx : vs[i]? = some x)
    (hq : ∀ h', h'.IsTupleIter it t (i + 1) → Heap.SameBut it s.heap h' → Q x { s with heap := h' }) : wpAny (model P w) A (Builtin.SmallTypes.nextOf (.ref it)) Q E s := by
  obtain ⟨oi, hoi, hci, hdi⟩ := id hi
  obtain ⟨ot, hot, _, nt, hdt⟩ := ht
  unfold Builtin.SmallTypes.nextOf
  refine wpAny_bind (wpAny_callSpecial?_slot (name := Str.ofString "__next__") hi.typeIs F.slot_tuple_iterator_next (wpAny_call_entry F.slot_tuple_iterator_next hi.typeIs F.entry_tuple_iterator_next ?_ (F.args_tuple_iterator_next_1 _)))
  show wpAny (model P w) _ (field (.ref it) 0 >>= _) _ _ s
  refine wpAny_bind (wpAny_field hoi hdi (x := .ref t) rfl ?_)
  show wpAny (model P w) _ (if (Value.ref t == Value.none) = true then _ else _) _ _ s
  rw [if_neg (by exact Bool.false_ne_true)]
  show wpAny (model P w) _ (field (.ref it) 1 >>= _) _ _ s
  refine wpAny_bind (wpAny_field hoi hdi (x := .int i 0) rfl ?_)
  show wpAny (model P w) _ (seqItems? (.ref t) >>= _) _ _ s
  refine wpAny_bind (wpAny_seqItems hot hdt ?_)
  simp only [Int.toNat_natCast, hx]
  refine wpAny_bind (wpAny_setField hoi hdi (by simp) (wpAny_pure ⟨x, rfl, wpAny_pure (hq _ ?_ (Heap.SameBut.update ..))⟩))
  exact ⟨_, Heap.get?_update_self _ hoi (Obj.isFreed_of_fields (Obj.data_mapFields hdi _)), (Obj.cls_mapFields ..).trans hci, by rw [Obj.data_mapFields hdi]; simp [rawInt]⟩
theorem nextOf_tuple_end {it t : Addr} {i : Nat} {vs : Array Value} {Q : Value → Shared → Prop} (hh : A.handled = none) (hi : s.heap.IsTupleIter it t i) (ht : s.heap.IsTuple t vs) (hx : vs[i]? = none)
    (hE : ∀ h' e, Heap.ExtBut it s.heap h' → (∃ o, h'.get? e = some o ∧ o.cls = .type "StopIteration") → E (.ref e) { s with heap := h' }) : wpAny (model P w) A (Builtin.SmallTypes.nextOf (.ref it)) Q E s := by
  obtain ⟨oi, hoi, hci, hdi⟩ := id hi
  obtain ⟨ot, hot, _, nt, hdt⟩ := ht
  unfold Builtin.SmallTypes.nextOf
  refine wpAny_bind (wpAny_callSpecial?_slot (name := Str.ofString "__next__") hi.typeIs F.slot_tuple_iterator_next (wpAny_call_entry F.slot_tuple_iterator_next hi.typeIs F.entry_tuple_iterator_next ?_ (F.args_tuple_iterator_next_1 _)))
  show wpAny (model P w) _ (field (.ref it) 0 >>= _) _ _ s
  refine wpAny_bind (wpAny_field hoi hdi (x := .ref t) rfl ?_)
  show wpAny (model P w) _ (if (Value.ref t == Value.none) = true then _ else _) _ _ s
  rw [if_neg (by exact Bool.false_ne_true)]
  show wpAny (model P w) _ (field (.ref it) 1 >>= _) _ _ s
  refine wpAny_bind (wpAny_field hoi hdi (x := .int i 0) rfl ?_)
  show wpAny (model P w) _ (seqItems? (.ref t) >>= _) _ _ s
  refine wpAny_bind (wpAny_seqItems hot hdt ?_)
  simp only [Int.toNat_natCast, hx]
  refine wpAny_bind (wpAny_rule (wpAny_bind (wpAny_setField hoi hdi (by simp) ?_)))
  show wpAny (model P w) _ (newExc (.type "StopIteration") [] >>= _) _ _ _
  refine wpAny_bind ?_
  simp only [newExc, newTuple]
  refine wpAny_bind (wpAny_newObj_type ?_ (by size_fits))
  refine wpAny_bind (m := firstArgMember _ _) (wpAny_of_eq (a := Value.none) (by first | rfl | (simp only [firstArgMember]; rfl)) ?_)
  refine wpAny_newObj_type ?_ (by size_fits)
  simp only [raiseNew]
  refine wpAny_bind (wpAny_handled ?_)
  first | rw [show A.in1.handled = none from hh] | rw [hh]
  refine wpAny_bind (wpAny_pure (wpAny_throw ?_))
  exact hE _ _ (((Heap.SameBut.update ..).extBut.push _).push _) ⟨_, Heap.get?_push_size _ rfl, rfl⟩
end
theorem subF_tup {P : Program} {w : World} (l : Addr) : SubF P w l { cls := .type "tuple_iterator", data := .fields #[.ref l, .int 0 0] } (fun h vs => h.IsTuple l vs) (fun it i h => h.IsTupleIter it l i) where
  start := fun A s vs Q E hl hq => wpAny_pyIter_tuple hl hq
  first := fun it h e => ⟨_, e, rfl, rfl⟩
  atK := fun it i h h' x k => let ⟨o, ho, r⟩ := x; ⟨o, k o ho, r⟩
  srcK := fun h h' vs x k => let ⟨o, ho, r⟩ := x; ⟨o, k o ho, r⟩
  obj := fun it i h x => by
    obtain ⟨o, ho, _, hd⟩ := x
    exact ⟨o, ho, fun v z => by rw [hd] at z; cases z⟩
  item := fun A s it i vs x Q E ha hs hx hq => nextOf_tuple_item ha hs hx hq
  fin := fun A s it i vs Q E hh ha hs hx hq => nextOf_tuple_end hh ha hs hx hq
end L2
set_option Elab.async false
set_option linter.all false
set_option maxRecDepth 100000
namespace L2
open PySem PySem.Spec PyProof.Rows
section
variable {P : Program} {w : World} {A : Around} {E : Value → Shared → Prop} {s : Shared} {l1 l2 : Addr} {ob1 ob2 : Obj} {src1 src2 : Heap → Array Value → Prop} {at1 at2 : Addr → Nat → Heap → Prop}
end
def SqX (K : PySem.W.Frag) : Bool → Hp → Addr → List V → Prop
  | true, H, a, xs => SqL K H a xs
  | false, H, a, xs => SqT K H a xs
def Itz (K : PySem.W.Frag) (c d : Bool) (a b : Addr) : It :=
  ⟨fun i H => ∃ xs ys x y, SqX K c H a xs ∧ SqX K d H b ys ∧ xs[i]? = some x ∧ ys[i]? = some y,
   fun i H v H' => ∃ p x y, H p = none ∧ v = .ref p ∧ H' = upd H p (.tup [x, y]) ∧ (∀ xs, SqX K c H a xs → xs[i]? = some x) ∧ ∀ ys, SqX K d H b ys → ys[i]? = some y,
   fun i H => ∃ xs ys, SqX K c H a xs ∧ SqX K d H b ys ∧ (xs.length ≤ i ∨ ys.length ≤ i)⟩
def zObj (a : Addr) : Bool → Obj
  | true => { cls := .type "list_iterator", data := .fields #[.ref a, .int 0 0] }
  | false => { cls := .type "tuple_iterator", data := .fields #[.ref a, .int 0 0] }
def zSrc (a : Addr) : Bool → Heap → Array Value → Prop
  | true, h, vs => h.IsList a vs
  | false, h, vs => h.IsTuple a vs
def zAt (a : Addr) : Bool → Addr → Nat → Heap → Prop
  | true, it, i, h => h.IsListIter it a i
  | false, it, i, h => h.IsTupleIter it a i
theorem zSub (a : Addr) (c : Bool) (P : Program) (w : World) : SubF P w a (zObj a c) (zSrc a c) (zAt a c) := by
  cases c
  · exact subF_tup a
  · exact subF_list a
theorem zObj_free (a : Addr) (c : Bool) : (zObj a c).isFreed = false := by cases c <;> rfl
theorem zSrc_there (a : Addr) (c : Bool) (h : Heap) (vs : Array Value) (e : zSrc a c h vs) : ∃ o, h.get? a = some o := by
  cases c
  · obtain ⟨o, ho, _⟩ := e; exact ⟨o, ho⟩
  · obtain ⟨o, ho, _⟩ := e; exact ⟨o, ho⟩
theorem Inv.sqX {X : Cx} {pins : List (Addr × Obj)} {σ : St} {H : Hp} {s : Shared} {c : Bool} {a : Addr} {xs : List V} (I : Inv X pins σ H s) (h : SqX X.K c H a xs) : ∃ its : List Value, Vals xs its ∧ zSrc a c s.heap its.toArray := by
  cases c with
  | true =>
    obtain ⟨its, r, pl, _⟩ := I.list h
    exact ⟨its, r, pl.isList⟩
  | false =>
    obtain ⟨its, r, ⟨o, ho, hc, n, hd⟩, _⟩ := I.tuple h
    exact ⟨its, r, ⟨o, ho, hc, n, hd⟩⟩
theorem Inv.sqX_inj {X : Cx} {pins : List (Addr × Obj)} {σ : St} {H : Hp} {s : Shared} {c : Bool} {a : Addr} {xs ys : List V} (I : Inv X pins σ H s) (h : SqX X.K c H a xs) (h' : SqX X.K c H a ys) : xs = ys := by
  cases c with
  | true => exact I.list_inj h h'
  | false => exact I.tuple_inj h h'
end L2
set_option Elab.async false
set_option linter.all false
set_option maxRecDepth 100000
namespace L2
open PySem PySem.Spec PyProof.Rows
section
variable {X : Cx} {pins : List (Addr × Obj)} {σ : St} {H H2 : Hp} {s s2 : Shared} {a : Addr} {o : HO}
end
section
variable {P : Program} {w : World} {A : Around} {E : Value → Shared → Prop} {s : Shared}
end
end L2
set_option Elab.async false
set_option linter.all false
set_option maxRecDepth 100000
namespace L2
open PySem PySem.Spec PyProof.Rows
section
variable {P : Program} {w : World} {A : Around} {E : Value → Shared → Prop} {s : Shared} {R : Result → Shared → Prop}
end
section
variable {X : Cx} {e : Expr} {te : TE} {p1 p2 pos pos2 : Pos}
end
end L2
set_option Elab.async false
set_option linter.all false
set_option maxRecDepth 100000
namespace L2
open PySem PySem.Spec PyProof.Rows
section
variable {X : Cx}
def iZip (K : PySem.W.Frag) (c d : Bool) (ta : TA) : TI := fun σ H R => ta σ H fun vs H1 => ∃ a b, vs = [.ref a, .ref b] ∧ (∃ xs, SqX K c H1 a xs) ∧ (∃ ys, SqX K d H1 b ys) ∧ R (Itz K c d a b) H1
end
end L2
set_option linter.all false
namespace Pb
structure Road where
  a : Int
  b : Int
  t : Int
  u : Int
  deriving DecidableEq
def below (n : Nat) : List Int := (List.range n).map fun (k : Nat) => (k : Int)
end Pb
set_option linter.all false
namespace Pb
section
variable {m : Int} {row : List Int} {rs rs' : List Road}
end
end Pb
set_option Elab.async false
set_option linter.all false
set_option maxRecDepth 100000
namespace L2
open PySem PySem.Spec PyProof.Rows
def Quiet (CX : CXT) : Prop := ∀ outer H s e s', ¬ CX outer H s E0 e s'
theorem passQ {CX : CXT} (q : Quiet CX) {X : Cx} : Passes CX X E0 := fun _ _ _ _ _ _ _ h => (q _ _ _ _ _ h).elim
structure Df (K : PySem.W.Frag) (mg : Str → Option Value) (x : Str) (st : Stmt) (ps : List Str) (f : Addr) (fd : FuncData) : Prop where
  F : Fun K x x st f fd
  m : mg x = some (.ref f)
  b : Binds K fd ps []
section
variable {P : Program} {w : World} {K : PySem.W.Frag} {mg : Str → Option Value} {base : Heap} {CX : CXT}
theorem Fun.okC {x qual : Str} {st : Stmt} {f : Addr} {fd : FuncData} {N ps : List Str} {k : Nat} {sp : Sp} (F : Fun K x qual st f fd) (S : FnScope N ps (defScope st)) (len : ∀ vs H Q E, sp vs H Q E → vs.length = ps.length)
    (hbody : ∀ (cdv : Value) (A : Around) (outer : List Env) (s : Shared) (H : Hp) (vs : List V) (Q : VK) (E : XK), Room k (A.deeper (envOfC qual (defScope st) s.heap.objs.size f cdv)) → sp vs H Q E →
      ∃ t, PSs (cxOf CX P w K mg base N qual (defScope st) f cdv A outer s H E).nox (defBody st) t ∧ t { nx := fun _ H' => Q .non H', rt := Q } (start N vs) H) : FnOk P w K mg base CX (k + 1) f fd ps sp := by
  obtain ⟨oc, od, kV, doc, pm, an, cdv, ct, osl, rfl, lk, hcd⟩ := F.ex
  refine fn_of lk hcd S len fun A outer s H vs Q E hr hsp => ?_
  obtain ⟨t, h, q⟩ := hbody cdv A outer s H vs Q E hr hsp
  exact ⟨t, h.nox, q⟩
end
structure NmL (sc : Scope) (x : Str) : Prop where
  l : sc.names.lookup x = some .local
  d : (x == ("__debug__" : Str)) = false
  c : (x == ("__classdict__" : Str)) = false
structure NmC (sc : Scope) (x : Str) : Prop where
  l : sc.names.lookup x = some .cell
  d : (x == ("__debug__" : Str)) = false
  c : (x == ("__classdict__" : Str)) = false
structure NmG (sc : Scope) (x : Str) : Prop where
  g : sc.names.lookup x = some .globalImplicit
  d : (x == ("__debug__" : Str)) = false
  n : x ≠ "__name__"
theorem us1 {us : List Value} (h : us.length = 1) : ∃ a0, us = [a0] := List.length_eq_one_iff.mp h
theorem us2 {us : List Value} (h : us.length = 2) : ∃ a0 a1, us = [a0, a1] := by
  cases us with
  | nil => cases h
  | cons a0 t =>
    obtain ⟨a1, e⟩ := us1 (Nat.succ.inj h)
    subst e
    exact ⟨a0, a1, rfl⟩
def nmL (sc : Scope) (x : Str) : Bool := decide (sc.names.lookup x = some .local) && !(x == ("__debug__" : Str)) && !(x == ("__classdict__" : Str))
def nmC (sc : Scope) (x : Str) : Bool := decide (sc.names.lookup x = some .cell) && !(x == ("__debug__" : Str)) && !(x == ("__classdict__" : Str))
def nmG (sc : Scope) (x : Str) : Bool := decide (sc.names.lookup x = some .globalImplicit) && !(x == ("__debug__" : Str)) && !decide (x = "__name__")
theorem NmL.of {sc : Scope} {x : Str} (h : nmL sc x = true) : NmL sc x := by
  unfold nmL at h
  simp only [Bool.and_eq_true, decide_eq_true_eq, Bool.not_eq_true'] at h
  exact ⟨h.1.1, h.1.2, h.2⟩
theorem NmC.of {sc : Scope} {x : Str} (h : nmC sc x = true) : NmC sc x := by
  unfold nmC at h
  simp only [Bool.and_eq_true, decide_eq_true_eq, Bool.not_eq_true'] at h
  exact ⟨h.1.1, h.1.2, h.2⟩
theorem NmG.of {sc : Scope} {x : Str} (h : nmG sc x = true) : NmG sc x := by
  unfold nmG at h
  simp only [Bool.and_eq_true, decide_eq_true_eq, Bool.not_eq_true', decide_eq_false_iff_not] at h
  exact ⟨h.1.1, h.1.2, h.2⟩
def scOk (N ps : List Str) (sc : Scope) : Bool := decide (sc.kind = .function) && !sc.isCoroutine && !sc.isGenerator && decide N.Nodup && decide (N.take ps.length = ps) && (ps.all fun x => decide (sc.names.lookup x = some .local ∨ sc.names.lookup x = some .cell)) && (sc.names.all fun y => decide (y.2 ≠ .free))
theorem FnScope.of {N ps : List Str} {sc : Scope} (h : scOk N ps sc = true) : FnScope N ps sc := by
  unfold scOk at h
  simp only [Bool.and_eq_true, decide_eq_true_eq, Bool.not_eq_true', List.all_eq_true] at h
  obtain ⟨⟨⟨⟨⟨⟨h1, h2⟩, h3⟩, h4⟩, h5⟩, h6⟩, h7⟩ := h
  exact ⟨h1, h2, h3, h4, h5, h6, h7⟩
theorem pvl {X : Cx} (i : Nat) {x : Str} {pos : Pos} (n : NmL X.env.scope x) (hN : X.N[i]? = some x := by rfl) : PE X (.Name x pos) (tVar i) := pe_var hN (.inl n.l) n.d n.c
theorem pvc {X : Cx} (i : Nat) {x : Str} {pos : Pos} (n : NmC X.env.scope x) (hN : X.N[i]? = some x := by rfl) : PE X (.Name x pos) (tVar i) := pe_var hN (.inr (.inl n.l)) n.d n.c
theorem cxOf_K {CX : CXT} {P : Program} {w : World} {K : PySem.W.Frag} {mg : Str → Option Value} {base : Heap} {N : List Str} {qual : Str} {scope : Scope} {f : Addr} {cd : Value} {A : Around} {outer : List Env} {s : Shared} {H : Hp} {E : XK} :
    (cxOf CX P w K mg base N qual scope f cd A outer s H E).K = K := rfl
theorem tNever_eq (D : Ends) (σ : St) (H : Hp) : tNever D σ H = False := rfl
theorem scal_ii (i j : Int) : scal (.int i) (.int j) = true := rfl
theorem scal_bb (i j : Bool) : scal (.bl i) (.bl j) = true := rfl
theorem scal_in (i : Int) : scal (.int i) .non = true := rfl
theorem scal_ni (i : Int) : scal .non (.int i) = true := rfl
theorem scal_nn : scal .non .non = true := rfl
theorem scal_ss (i j : Str) : scal (.str i) (.str j) = true := rfl
theorem ixL {K : PySem.W.Frag} {H : Hp} {p : Addr} {xs : List V} {i : Int} {v : V} {Q : VK} (h : H p = some (.lst xs)) (e : atI xs i = some v) (q : Q v H) : rIxL K (.ref p) (.int i) H Q := ⟨p, xs, i, v, rfl, rfl, SqL.of h, e, q⟩
theorem small {n : Nat} (h : n ≤ 100000) : n < sizeLine := Nat.lt_of_le_of_lt h (by decide)
theorem smallE {n : Nat} (h : n ≤ 100000) : n ≤ sizeLine := Nat.le_of_lt (small h)
def Itx (K : PySem.W.Frag) : Bool → Addr → It
  | true, a => Itl K a
  | false, a => Itt K a
def iAny (K : PySem.W.Frag) (c : Bool) (tl : TE) : TI := fun σ H R => tl σ H fun x H1 => ∃ a, x = .ref a ∧ (∃ xs, SqX K c H1 a xs) ∧ R (Itx K c a) H1
theorem pi_any {X : Cx} {tg l : Expr} {tl : TE} (c : Bool) (hl : PE X l tl) : PI X tg l (iAny X.K c tl) := by
  cases c
  · exact pi_tup hl
  · exact pi_list hl
theorem for_any {K : PySem.W.Frag} {c : Bool} {a : Addr} {xs : List V} {g : TG} {tb : TS} {D : Ends} {σ : St} {H : Hp} (Pv : Nat → St → Hp → Prop) (h0 : Pv 0 σ H) (hl : ∀ i σ H, i ≤ xs.length → Pv i σ H → SqX K c H a xs)
    (hs : ∀ i x σ H, xs[i]? = some x → Pv i σ H → g x σ H fun σ2 H2 => tb { D with nx := Pv (i + 1), ct := Pv (i + 1), bk := D.nx } σ2 H2) (hd : ∀ σ H, Pv xs.length σ H → D.nx σ H) :
    ∃ W : Nat → Nat → St → Hp → Prop, (∃ m, W 0 m σ H) ∧ ∀ i m σ H, W i m σ H →
      ((Itx K c a).stop i H ∧ D.nx σ H) ∨ ((Itx K c a).go i H ∧ ∃ N : St → Hp → Prop, (∀ σ' H', N σ' H' → ∃ m', m' < m ∧ W (i + 1) m' σ' H') ∧ ∀ x H', (Itx K c a).yld i H x H' → g x σ H' fun σ2 H2 => tb { D with nx := N, ct := N, bk := D.nx } σ2 H2) := by
  cases c
  · exact for_tup Pv h0 hl hs hd
  · exact for_list Pv h0 hl hs hd
def CompGo (J : It) (p : Addr) (Q : VK) (g : TG) (tc : TT) (te : TE) (σ0 : St) (H0 : Hp) : Prop :=
  ∃ W : Nat → Nat → List V → St → Hp → Prop, (∃ m, W 0 m [] σ0 H0) ∧ ∀ i m ys σc Hc, W i m ys σc Hc →
    (J.stop i Hc ∧ Q (.ref p) Hc) ∨ (J.go i Hc ∧ ∀ x H', J.yld i Hc x H' → g x σc H' fun σ2 H2 => tc σ2 H2 fun b H3 =>
      if b = true then te σ2 H3 fun y H4 => H4 p = some (.lst ys) ∧ ys.length < sizeLine ∧ ∃ m', m' < m ∧ W (i + 1) m' (ys ++ [y]) σ2 (upd H4 p (.lst (ys ++ [y])))
      else ∃ m', m' < m ∧ W (i + 1) m' ys σ2 H3)
theorem tComp_eq' {own : Nat} {js : List Nat} {wi : TI} {g : TG} {tc : TT} {te : TE} {σ : St} {H : Hp} {Q : VK} : tComp own js wi g tc te σ H Q = wi σ H fun J H1 => ∀ p, H1 p = none → CompGo J p Q g tc te (compStart0 own js σ) (upd H1 p (.lst [])) := rfl
def ForGo (J : It) (D : Ends) (g : TG) (tb : TS) (σ : St) (H : Hp) : Prop := ∃ W : Nat → Nat → St → Hp → Prop, (∃ m, W 0 m σ H) ∧ ∀ i m σ H, W i m σ H →
  (J.stop i H ∧ D.nx σ H) ∨ (J.go i H ∧ ∃ N : St → Hp → Prop, (∀ σ' H', N σ' H' → ∃ m', m' < m ∧ W (i + 1) m' σ' H') ∧ ∀ x H', J.yld i H x H' → g x σ H' fun σ2 H2 => tb { D with nx := N, ct := N, bk := D.nx } σ2 H2)
theorem tFor_eq {wi : TI} {g : TG} {tb : TS} {D : Ends} {σ : St} {H : Hp} : tFor wi g tb D σ H = wi σ H fun J H1 => ForGo J D g tb σ H1 := rfl
theorem comp_any {K : PySem.W.Frag} {c : Bool} {a p : Addr} {xs : List V} {Q : VK} {g : TG} {tc : TT} {te : TE} {σ0 : St} {H0 : Hp} (Pv : Nat → List V → St → Hp → Prop) (h0 : Pv 0 [] σ0 H0) (hl : ∀ i ys σ H, i ≤ xs.length → Pv i ys σ H → SqX K c H a xs)
    (hs : ∀ (i : Nat) (x : V) (ys : List V) (σ : St) (H : Hp) (N : List V → St → Hp → Prop), (∀ ys' σ' H', Pv (i + 1) ys' σ' H' → N ys' σ' H') → xs[i]? = some x → Pv i ys σ H → g x σ H fun σ2 H2 => tc σ2 H2 fun b H3 =>
      if b = true then te σ2 H3 fun y H4 => H4 p = some (.lst ys) ∧ ys.length < sizeLine ∧ N (ys ++ [y]) σ2 (upd H4 p (.lst (ys ++ [y]))) else N ys σ2 H3)
    (hd : ∀ ys σ H, Pv xs.length ys σ H → Q (.ref p) H) : CompGo (Itx K c a) p Q g tc te σ0 H0 := by
  refine ⟨fun i m ys σ H => m = xs.length - i ∧ i ≤ xs.length ∧ Pv i ys σ H, ⟨xs.length, by simp, Nat.zero_le _, h0⟩, ?_⟩
  rintro i m ys σ H ⟨rfl, hi, pv⟩
  have q := hl i ys σ H hi pv
  by_cases hlt : i < xs.length
  · refine .inr ⟨?_, fun x H' y => ?_⟩
    · cases c
      · exact ⟨xs, xs[i], q, by simp [hlt]⟩
      · exact ⟨xs, xs[i], q, by simp [hlt]⟩
    · have e : H' = H ∧ xs[i]? = some x := by
        cases c
        · exact ⟨y.1, y.2 xs q⟩
        · exact ⟨y.1, y.2 xs q⟩
      obtain ⟨rfl, hx⟩ := e
      exact hs i x ys σ _ (fun ys' σ' H' => ∃ m', m' < xs.length - i ∧ (m' = xs.length - (i + 1) ∧ i + 1 ≤ xs.length ∧ Pv (i + 1) ys' σ' H')) (fun ys' σ' H' pv' => ⟨xs.length - (i + 1), by omega, rfl, hlt, pv'⟩) hx pv
  · have e : i = xs.length := by omega
    subst e
    refine .inl ⟨?_, hd ys σ H pv⟩
    cases c
    · exact ⟨xs, q, Nat.le_refl _⟩
    · exact ⟨xs, q, Nat.le_refl _⟩
theorem pb_len : bootBuiltins "len" = some (.builtin "len") := by decide +kernel
theorem pb_isinstance : bootBuiltins "isinstance" = some (.builtin "isinstance") := by decide +kernel
theorem pb_int : bootBuiltins "int" = some (.type "int") := by decide +kernel
theorem pb_list : bootBuiltins "list" = some (.type "list") := by decide +kernel
theorem pb_tuple : bootBuiltins "tuple" = some (.type "tuple") := by decide +kernel
theorem pb_bool : bootBuiltins "bool" = some (.type "bool") := by decide +kernel
section
variable {X : Cx} {a b o e : Expr} {es : List Expr} {ta tb to : TE} {t : TA} {pos apos cpos : Pos} {f name : Str} {T id : String} {r : V → List V → Hp → VK → Prop}
theorem ix_tupK (K : PySem.W.Frag) (h : X.K = K) : IxR X (rIxT K) := by subst h; exact ix_tup
end
theorem for_anyN {K : PySem.W.Frag} {c : Bool} {a : Addr} {xs : List V} {g : TG} {tb : TS} {D : Ends} {σ : St} {H : Hp} (Pv : Nat → St → Hp → Prop) (h0 : Pv 0 σ H) (hl : ∀ i σ H, i ≤ xs.length → Pv i σ H → SqX K c H a xs)
    (hs : ∀ (i : Nat) (x : V) (σ : St) (H : Hp) (N : St → Hp → Prop), (∀ σ' H', Pv (i + 1) σ' H' → N σ' H') → xs[i]? = some x → Pv i σ H → g x σ H fun σ2 H2 => tb { D with nx := N, ct := N, bk := D.nx } σ2 H2) (hd : ∀ σ H, Pv xs.length σ H → D.nx σ H) :
    ForGo (Itx K c a) D g tb σ H := for_any Pv h0 hl (fun i x σ H hx p => hs i x σ H (Pv (i + 1)) (fun _ _ z => z) hx p) hd
theorem for_listN {K : PySem.W.Frag} {a : Addr} {xs : List V} {g : TG} {tb : TS} {D : Ends} {σ : St} {H : Hp} (Pv : Nat → St → Hp → Prop) (h0 : Pv 0 σ H) (hl : ∀ i σ H, i ≤ xs.length → Pv i σ H → SqL K H a xs)
    (hs : ∀ (i : Nat) (x : V) (σ : St) (H : Hp) (N : St → Hp → Prop), (∀ σ' H', Pv (i + 1) σ' H' → N σ' H') → xs[i]? = some x → Pv i σ H → g x σ H fun σ2 H2 => tb { D with nx := N, ct := N, bk := D.nx } σ2 H2) (hd : ∀ σ H, Pv xs.length σ H → D.nx σ H) :
    ForGo (Itl K a) D g tb σ H := for_list Pv h0 hl (fun i x σ H hx p => hs i x σ H (Pv (i + 1)) (fun _ _ z => z) hx p) hd
theorem for_rangeN {lo : Int} {n : Nat} {g : TG} {tb : TS} {D : Ends} {σ : St} {H : Hp} (Pv : Nat → St → Hp → Prop) (h0 : Pv 0 σ H)
    (hs : ∀ (i : Nat) (σ : St) (H : Hp) (N : St → Hp → Prop), (∀ σ' H', Pv (i + 1) σ' H' → N σ' H') → i < n → Pv i σ H → g (.int (lo + i)) σ H fun σ2 H2 => tb { D with nx := N, ct := N, bk := D.nx } σ2 H2) (hd : ∀ σ H, Pv n σ H → D.nx σ H) :
    ForGo (Itr lo n) D g tb σ H := for_range Pv h0 (fun i σ H hi p => hs i σ H (Pv (i + 1)) (fun _ _ z => z) hi p) hd
theorem while_n {c : TT} {tb : TS} {D : Ends} {σ : St} {H : Hp} (W : Nat → St → Hp → Prop) (n0 : Nat) (h0 : W n0 σ H)
    (hs : ∀ (n : Nat) (σ : St) (H : Hp) (N : St → Hp → Prop), (∀ n' σ' H', n' < n → W n' σ' H' → N σ' H') → (∀ σ' H', N σ' H' → ∃ m', m' < n ∧ W m' σ' H') → W n σ H →
      c σ H fun b H1 => if b = true then ∃ N : St → Hp → Prop, (∀ σ' H', N σ' H' → ∃ m', m' < n ∧ W m' σ' H') ∧ tb { D with nx := N, ct := N, bk := D.nx } σ H1 else D.nx σ H1) : tWhile c tb D σ H :=
  ⟨W, ⟨n0, h0⟩, fun n σ H w => hs n σ H (fun σ' H' => ∃ m', m' < n ∧ W m' σ' H') (fun n' _ _ hn w' => ⟨n', hn, w'⟩) (fun _ _ z => z) w⟩
theorem p60 : (0 : Int) < 10 ^ (60 : Int).toNat := Int.pow_pos (by decide)
theorem bits_le {a : Int} {n : Nat} (h : a.natAbs < 2 ^ n) : Builtin.Int.intBits a ≤ n := by
  unfold Builtin.Int.intBits
  by_cases z : a = 0
  · subst z; simp
  · have hz : (a == 0) = false := by simpa using z
    rw [hz]
    simp only [Bool.false_eq_true, if_false]
    have := (Nat.log2_lt (by omega)).mpr h
    omega
theorem mul_ok {a b : Int} (ha : a.natAbs < 2 ^ 4000) (hb : b.natAbs < 2 ^ 4000) : IntMulOk a b :=
  IntMulOk.of_bits (Nat.le_trans (bits_le ha) (by decide)) (Nat.le_trans (bits_le hb) (by decide))
theorem add_bits {a b : Int} {n : Nat} (ha : a.natAbs < 2 ^ n) (hb : b.natAbs < 2 ^ n) : (a + b).natAbs < 2 ^ (n + 1) := by
  have := Int.natAbs_add_le a b
  rw [Nat.pow_succ]
  omega
theorem mul_bits {a b : Int} {m n : Nat} (ha : a.natAbs < 2 ^ m) (hb : b.natAbs < 2 ^ n) : (a * b).natAbs < 2 ^ (m + n) := by
  rw [Int.natAbs_mul, Nat.pow_add]
  exact Nat.mul_lt_mul'' ha hb
theorem up_bits {a : Int} {m n : Nat} (h : a.natAbs < 2 ^ m) (hm : m ≤ n) : a.natAbs < 2 ^ n := Nat.lt_of_lt_of_le h (Nat.pow_le_pow_right (by decide) hm)
theorem p60_bits : (10 ^ (60 : Int).toNat : Int).natAbs < 2 ^ 200 := by decide +kernel
theorem mod_bits {c M : Int} {n : Nat} (h0 : 0 < M) (h : M.natAbs < 2 ^ n) : (c % M).natAbs < 2 ^ n := by
  have h1 := Int.emod_nonneg c (Int.ne_of_gt h0)
  have h2 := Int.emod_lt_of_pos c h0
  omega
theorem stir_bits (c i : Int) (h0 : 0 ≤ i) (h1 : i ≤ 1000000) : (c % 10 ^ (60 : Int).toNat + 3).natAbs < 2 ^ 300 ∧ (16180339887498948482045868343656381177203 + 2 * i * i).natAbs < 2 ^ 300 ∧
    ((c % 10 ^ (60 : Int).toNat + 3) * (16180339887498948482045868343656381177203 + 2 * i * i) + 6151 * i).natAbs < 2 ^ 4000 := by
  have hi : i.natAbs < 2 ^ 20 := by omega
  have a1 : (c % 10 ^ (60 : Int).toNat + 3).natAbs < 2 ^ 201 := add_bits (mod_bits p60 p60_bits) (by decide +kernel)
  have b1 : (2 * i * i).natAbs < 2 ^ 199 := up_bits (mul_bits (mul_bits (a := 2) (m := 2) (by decide) hi) hi) (by decide)
  have b2 : (16180339887498948482045868343656381177203 + 2 * i * i).natAbs < 2 ^ 200 := add_bits (by decide +kernel) b1
  have c1 : (6151 * i).natAbs < 2 ^ 401 := up_bits (mul_bits (a := 6151) (m := 20) (by decide) hi) (by decide)
  exact ⟨up_bits a1 (by decide), up_bits b2 (by decide), up_bits (add_bits (mul_bits a1 b2) c1) (by decide)⟩
open Pb
theorem Same.new {H : Hp} {p : Addr} (o : HO) (h : H p = none) : Same H (upd H p o) := fun b u e => by rw [upd_ne (ne_of_none e h)]; exact e
end L2
set_option Elab.async false
set_option linter.all false
set_option maxRecDepth 100000
namespace L2
open PySem PySem.Spec PyProof.Rows
section
variable {prog : Program} {w : World} {A : Around} {E : Value → Shared → Prop} {s : Shared} {K : PySem.W.Frag} {x C : Addr} {ox : Obj} {od : Option Obj}
end
end L2
set_option Elab.async false
set_option linter.all false
set_option maxRecDepth 100000
namespace L2
open PySem PySem.Spec PyProof.Rows
section
variable {M : Model} {A : Around} {E : Value → Shared → Prop} {s : Shared} {Q : Unit → Shared → Prop} {fs : List Addr} {ea T L : Addr} {cls fl hd : Value} {od : Option Addr} {base : Heap} {env : Env} {outer : List Env}
end
section
variable {P : Program} {w : World} {K : PySem.W.Frag} {mg : Str → Option Value} {base : Heap} {N : List Str} {qual : Str} {scope : Scope} {f : Addr} {cd : Value} {A : Around} {outer : List Env} {s : Shared} {H : Hp} {E : XK}
end
section
variable {P : Program} {w : World} {K : PySem.W.Frag} {mg : Str → Option Value} {base : Heap} {N : List Str} {qual : Str} {scope : Scope} {f : Addr} {cd : Value} {A : Around} {outer : List Env} {s : Shared} {H : Hp} {E : XK}
end
end L2
set_option Elab.async false
set_option linter.all false
set_option maxRecDepth 100000
namespace L2
open PySem PySem.Spec PyProof.Rows
def tRaise (C : Addr) (E : XK) (t : TA) : TS := fun _ σ H => t σ H fun vs H1 => vs.length ≤ sizeLine ∧ E (.ref C) none H1
section
variable {X : Cx} {x : Str} {np cpos pos : Pos} {e0 : Expr} {es : List Expr} {t : TA} {C : Addr} {E : XK}
end
section
variable {CX : CXT} {X : Cx} {k : Nat} {f C : Addr} {fd : FuncData} {ps : List Str} {sp : Sp} {dvs : List V} {ds : List Value} {x : Str} {p pos : Pos} {e : Expr} {es : List Expr} {te : TE} {t : TA} {st : Stmt} {sts : List Stmt} {ts : TS} {tx ux : (St → XK) → TS} {ex : XK → TE}
end
end L2
set_option Elab.async false
set_option linter.all false
set_option maxRecDepth 100000
namespace L2
open PySem PySem.Spec PyProof.Rows
section
variable {X : Cx} {pins : List (Addr × Obj)} {σ : St} {H : Hp} {s : Shared}
end
section
variable {K : PySem.W.Frag} {C C' : Addr} {x : Addr} {ox : Obj} {od : Option Obj} {M : Model} {A : Around} {E : Value → Shared → Prop} {s : Shared} {b : Bool} {Q : Bool → Shared → Prop}
end
end L2
set_option Elab.async false
set_option linter.all false
set_option maxRecDepth 100000
namespace L2
open PySem PySem.Spec PyProof.Rows
def ExO (ea : Addr) (cls : Value) (od : Option Addr) : HO := .ext fun h => ∃ oe vs, h.get? ea = some oe ∧ oe.cls = cls ∧ oe.dict = od ∧ oe.data = .fields vs
section
variable {X : Cx} {pins : List (Addr × Obj)} {σ : St} {H : Hp} {s : Shared}
end
abbrev TH := Ends → St → Value → Option Addr → Hp → Prop
def Ends.less (D : Ends) (i : Nat) : Ends := { nx := fun σ H => D.nx (σ.set i none) H, rt := D.rt, bk := fun σ H => D.bk (σ.set i none) H, ct := fun σ H => D.ct (σ.set i none) H }
def tHand (K : PySem.W.Frag) (C' : Addr) (i : Nat) (ts : TS) (tr : TH) : TH := fun D σ cls od H => ∃ C b, cls = .ref C ∧ PySem.W.mroIn K C (.ref C') = some b ∧
  if b = true then ∀ ea, H ea = none → ts (D.less i) (σ.set i (some (.ref ea))) (upd H ea (ExO ea cls od)) else tr D σ cls od H
section
variable {X : Cx} {x n : Str} {np pos : Pos} {i : Nat} {C' : Addr} {b0 : Stmt} {suite : List Stmt} {rest : List ExceptHandler} {ts : TS} {tr : TH}
def tTry (tb : (St → XK) → TS) (th : TH) : TS := fun D σ H => tb (fun σ' cls od H' => th D σ' cls od H') D σ H
end
end L2
set_option Elab.async false
set_option linter.all false
set_option maxRecDepth 100000
namespace L2
open PySem PySem.Spec PyProof.Rows
section
variable {P : Program} {w : World} {K : PySem.W.Frag} {mg : Str → Option Value} {base : Heap}
end
section
variable {X : Cx} {k : Nat} {f : Addr} {fd : FuncData} {ps : List Str} {sp : Sp} {x : Str} {p pos : Pos} {e : Expr} {es : List Expr} {t : TA}
end
section
variable {X : Cx}
end
def clOf (cells : List (Str × Addr)) : List (Str × NameKind) → List (Str × Addr) → List (Str × Addr)
  | [], acc => acc
  | (n, k) :: r, acc => if k == .free then clOf cells r ((n, (cells.lookup n).getD 0) :: acc) else clOf cells r acc
theorem closure_of {scope : Scope} {env : Env} (h : ∀ y ∈ scope.names, y.2 = .free → (env.cells.lookup y.1).isSome = true) : closureFor scope env = pure (clOf env.cells scope.names []) := by
  have key : ∀ (l : List (Str × NameKind)) (acc : List (Str × Addr)), (∀ y ∈ l, y.2 = .free → (env.cells.lookup y.1).isSome = true) →
      (forIn l acc fun (y : Str × NameKind) (c : List (Str × Addr)) => (if y.2 == NameKind.free then do let a ← cellOf env y.1; pure (ForInStep.yield ((y.1, a) :: c)) else pure (ForInStep.yield c) : Sem (ForInStep (List (Str × Addr))))) = (pure (clOf env.cells l acc) : Sem (List (Str × Addr))) := by
    intro l
    induction l with
    | nil => intro acc _; rfl
    | cons y l ih =>
      obtain ⟨n, k⟩ := y
      intro acc hh
      have h1 := hh (n, k) List.mem_cons_self
      have h2 : ∀ y ∈ l, y.2 = .free → (env.cells.lookup y.1).isSome = true := fun y hy => hh y (List.mem_cons_of_mem _ hy)
      rw [List.forIn_cons]
      unfold clOf
      cases q : k == NameKind.free with
      | false =>
        simp only [Bool.false_eq_true, if_false, pure_bind]
        exact ih acc h2
      | true =>
        obtain ⟨c, hc⟩ := Option.isSome_iff_exists.mp (h1 (by simpa using q))
        dsimp only at hc
        simp only [if_true, cellOf, hc, pure_bind, Option.getD_some]
        exact ih _ h2
  have := key scope.names [] h
  unfold closureFor
  simp only [bind_pure]
  exact this
theorem clOf_sub {cells : List (Str × Addr)} {x : Str} {c : Addr} : ∀ {l : List (Str × NameKind)} {acc : List (Str × Addr)}, (∀ y ∈ l, y.2 = .free → (cells.lookup y.1).isSome = true) → (∀ x c, acc.lookup x = some c → cells.lookup x = some c) → (clOf cells l acc).lookup x = some c → cells.lookup x = some c
  | [], acc, _, h2, h3 => h2 x c h3
  | (n, k) :: r, acc, h1, h2, h3 => by
    have h1' : ∀ y ∈ r, y.2 = .free → (cells.lookup y.1).isSome = true := fun y hy => h1 y (List.mem_cons_of_mem _ hy)
    unfold clOf at h3
    cases q : k == NameKind.free with
    | false =>
      rw [q] at h3
      exact clOf_sub h1' h2 (by simpa using h3)
    | true =>
      rw [q] at h3
      simp only [if_true] at h3
      obtain ⟨a, ha⟩ := Option.isSome_iff_exists.mp (h1 (n, k) List.mem_cons_self (by simpa using q))
      dsimp only at ha
      rw [ha] at h3
      refine clOf_sub h1' (fun y d hy => ?_) h3
      rw [List.lookup_cons] at hy
      cases z : y == n with
      | true =>
        rw [z] at hy
        cases hy
        rw [eq_of_beq z]
        exact ha
      | false =>
        rw [z] at hy
        exact h2 y d hy
theorem clOf_has {cells : List (Str × Addr)} {x : Str} : ∀ {l : List (Str × NameKind)} {acc : List (Str × Addr)}, ((∃ c, acc.lookup x = some c) ∨ (x, NameKind.free) ∈ l) → ∃ c, (clOf cells l acc).lookup x = some c
  | [], acc, h => by
    rcases h with h | h
    · exact h
    · cases h
  | (n, k) :: r, acc, h => by
    unfold clOf
    cases q : k == NameKind.free with
    | false =>
      simp only [Bool.false_eq_true, if_false]
      refine clOf_has ?_
      rcases h with h | h
      · exact .inl h
      · rcases List.mem_cons.mp h with z | z
        · cases z
          simp at q
        · exact .inr z
    | true =>
      simp only [if_true]
      refine clOf_has ?_
      by_cases z : x = n
      · subst z
        exact .inl ⟨(cells.lookup x).getD 0, by rw [List.lookup_cons]; simp⟩
      · rcases h with ⟨c, h⟩ | h
        · refine .inl ⟨c, ?_⟩
          rw [List.lookup_cons]
          have : (x == n) = false := by simpa using z
          rw [this]
          exact h
        · rcases List.mem_cons.mp h with y | y
          · cases y
            exact absurd rfl z
          · exact .inr y
theorem relabel_lookup {env : Env} {x : Str} {k : NameKind} : ∀ {l : List (Str × NameKind)}, l.lookup x = some k →
    (l.map fun (n, k) => if (k == NameKind.free && env.scope.kind == .function && env.kindOf n == some .cell) then (n, NameKind.cell) else (n, k)).lookup x = some (if (k == NameKind.free && env.scope.kind == .function && env.kindOf x == some .cell) then NameKind.cell else k)
  | [], h => by simp at h
  | (n, j) :: r, h => by
    have ih := @relabel_lookup env x k r
    rw [List.map_cons]
    rw [List.lookup_cons] at h
    cases z : x == n with
    | true =>
      rw [z] at h
      cases h
      have e := eq_of_beq z
      subst e
      by_cases q : (k == NameKind.free && env.scope.kind == .function && env.kindOf x == some .cell) = true
      · simp only [q, if_true, List.lookup_cons, z]
      · simp only [q, if_false, List.lookup_cons, z, Bool.false_eq_true]
    | false =>
      rw [z] at h
      dsimp only
      by_cases q : (j == NameKind.free && env.scope.kind == .function && env.kindOf n == some .cell) = true
      · rw [if_pos q, List.lookup_cons, z]
        exact ih h
      · rw [if_neg q, List.lookup_cons, z]
        exact ih h
theorem ct_clos {X : Cx} {Nc : List Str} {scope : Scope} (own : Nat) (js : List Nat) (hc : ∀ y ∈ scope.names, y.2 ≠ .cell) (hk : scope.kind = .function) (hn : ∀ y ∈ scope.names, y.2 = .local → scope.names.lookup y.1 = some .local) (hl : Nc.length = own + js.length)
    (hf : ∀ y ∈ scope.names, y.2 = .free → X.env.scope.names.lookup y.1 = some .cell) (hX : X.env.scope.kind = .function) (hcell : ∀ x, X.env.scope.names.lookup x = some .cell → ∃ c, X.env.cells.lookup x = some c)
    (hU : ∀ i, i < js.length → ∃ x j, Nc[own + i]? = some x ∧ js[i]? = some j ∧ X.N[j]? = some x ∧ scope.names.lookup x = some .free) : CompTxt X Nc own js scope (clOf X.env.cells scope.names []) := by
  have hs : ∀ y ∈ scope.names, y.2 = .free → (X.env.cells.lookup y.1).isSome = true := fun y hy e => by
    obtain ⟨c, q⟩ := hcell _ (hf y hy e)
    rw [q]
    rfl
  have free_cell : ∀ x, scope.names.lookup x = some .free → X.env.scope.names.lookup x = some .cell := fun x h => hf (x, .free) (PySem.mem_of_lookup h) rfl
  refine ⟨closure_of hs, hk, hc, hn, fun x c h => clOf_sub hs (fun x c z => by simp at z) h, fun x h => ?_, hl, fun i x h => ?_⟩
  · cases q : scope.names.lookup x with
    | none =>
      exfalso
      have : (relabel scope X.env).names.lookup x = none := by
        unfold relabel
        dsimp only
        revert q
        generalize scope.names = l
        induction l with
        | nil => intro _; rfl
        | cons y l ih =>
          obtain ⟨n, k⟩ := y
          intro q
          rw [List.lookup_cons] at q
          cases z : x == n with
          | true => rw [z] at q; cases q
          | false =>
            rw [z] at q
            rw [List.map_cons]
            dsimp only
            by_cases w : (k == NameKind.free && X.env.scope.kind == .function && X.env.kindOf n == some .cell) = true
            · rw [if_pos w, List.lookup_cons, z]
              exact ih q
            · rw [if_neg w, List.lookup_cons, z]
              exact ih q
      rw [this] at h
      rcases h with h | h <;> cases h
    | some k =>
      have r : (relabel scope X.env).names.lookup x = some _ := relabel_lookup (env := X.env) q
      cases k with
      | free => exact clOf_has (.inr (PySem.mem_of_lookup q))
      | cell => exact absurd rfl (hc _ (PySem.mem_of_lookup q))
      | _ =>
        rw [r] at h
        simp at h
  · have hi : i < js.length := by
      have := (List.getElem?_eq_some_iff.mp h).1
      omega
    obtain ⟨y, j, e1, e2, e3, e4⟩ := hU i hi
    rw [h] at e1
    cases e1
    have fc := free_cell x e4
    refine ⟨j, e2, e3, fc, ?_⟩
    have r : (relabel scope X.env).names.lookup x = some _ := relabel_lookup (env := X.env) e4
    rw [r]
    have : X.env.kindOf x = some .cell := fc
    rw [this, hX]
    rfl
end L2
set_option Elab.async false
set_option linter.all false
set_option maxRecDepth 100000
namespace L2
open PySem PySem.Spec PyProof.Rows
section
variable {X : Cx}
end
section
variable {K : PySem.W.Frag} {T C : Addr} {c0 : Value} {dd : Option Addr} {cd : ClassData} {sl : Array (Option Value)}
end
section
variable {P : Program} {w : World} {K : PySem.W.Frag} {mg : Str → Option Value} {base : Heap}
end
theorem tRaise_eq {C : Addr} {E : XK} {t : TA} {D : Ends} {σ : St} {H : Hp} : tRaise C E t D σ H = t σ H fun vs H1 => vs.length ≤ sizeLine ∧ E (.ref C) none H1 := rfl
theorem tTry_eq {tb : (St → XK) → TS} {th : TH} {D : Ends} {σ : St} {H : Hp} : tTry tb th D σ H = tb (fun σ' cls od H' => th D σ' cls od H') D σ H := rfl
theorem tHand_eq {K : PySem.W.Frag} {C' : Addr} {i : Nat} {ts : TS} {tr : TH} {D : Ends} {σ : St} {cls : Value} {od : Option Addr} {H : Hp} : tHand K C' i ts tr D σ cls od H = ∃ C b, cls = .ref C ∧ PySem.W.mroIn K C (.ref C') = some b ∧
  if b = true then ∀ ea, H ea = none → ts (D.less i) (σ.set i (some (.ref ea))) (upd H ea (ExO ea cls od)) else tr D σ cls od H := rfl
theorem Same.put {H H' : Hp} {l : Addr} (e : Same H H') (n : H l = none) (o : HO) : Same H (upd H' l o) := fun b u h => by rw [upd_ne (ne_of_none h n)]; exact e b u h
end L2
set_option Elab.async false
set_option linter.all false
set_option maxRecDepth 100000
namespace L2
open PySem PySem.Spec PyProof.Rows
section
variable {X : Cx} {Nc : List Str} {own : Nat} {js : List Nat} {scope : Scope} {cl : List (Str × Addr)}
end
end L2
set_option Elab.async false
set_option linter.all false
set_option maxRecDepth 100000
namespace L2
open PySem PySem.Spec PyProof.Rows
end L2
set_option Elab.async false
set_option linter.all false
set_option maxRecDepth 100000
namespace Pb
open L2 PySem
variable {m : Int} {rs : List Road} {r : Int} {par : Int → Int} {dep : Int → Nat}
end Pb
set_option Elab.async false
set_option linter.all false
set_option maxRecDepth 100000
namespace L2
open PySem PySem.Spec PyProof.Rows
def Itv (K : PySem.W.Frag) (a : Addr) (n : Nat) : It :=
  ⟨fun i H => i < n ∧ ∃ xs x, SqL K H a xs ∧ xs[n - 1 - i]? = some x, fun i H x H' => H' = H ∧ ∀ xs, SqL K H a xs → xs[n - 1 - i]? = some x, fun i H => n ≤ i⟩
def iRev (K : PySem.W.Frag) (tl : TE) : TI := fun σ H R => tl σ H fun x H1 => ∃ a xs, x = .ref a ∧ SqL K H1 a xs ∧ R (Itv K a xs.length) H1
section
variable {X : Cx} {tg e : Expr} {te : TE} {p2 pos : Pos}
end
end L2
set_option Elab.async false
set_option linter.all false
set_option maxRecDepth 100000
namespace L2
open PySem PySem.Spec PyProof.Rows
def tListR (te : TE) : TE := fun σ H Q => te σ H fun x H1 => ∃ i, x = .int i ∧ 0 ≤ i ∧ i ≤ 100000 ∧ ∀ l, H1 l = none → Q (.ref l) (upd H1 l (.lst ((Pb.below i.toNat).map V.int)))
section
variable {X : Cx} {e : Expr} {te : TE} {p1 p2 pos pos2 : Pos}
end
end L2
set_option Elab.async false
set_option linter.all false
set_option maxRecDepth 100000
namespace L2
open PySem PySem.Spec PyProof.Rows PySem.W
section
variable {X : Cx}
end
end L2
set_option Elab.async false
set_option linter.all false
set_option maxRecDepth 100000
namespace L2
open PySem PySem.Spec PyProof.Rows
theorem pb_sum : bootBuiltins "sum" = some (.builtin "sum") := by decide +kernel
theorem preSum_take (ns : List Int) : ∀ n, n ≤ ns.length → preSum (fun i => ns.getD i 0) n = (ns.take n).sum
  | 0, _ => by simp [preSum]
  | n + 1, h => by
    have ih := preSum_take ns n (by omega)
    have hn : n < ns.length := by omega
    rw [List.take_succ, List.getElem?_eq_getElem hn, List.sum_append, ← ih]
    simp [preSum, List.getD, hn]
section
variable {X : Cx}
theorem call_sum (hc : X.calm = true) : CallR X (.builtin "sum") (fun xs H Q => ∃ (p : Addr) (ns : List Int), xs = [.ref p] ∧ (SqL X.K H p (ns.map V.int) ∨ SqT X.K H p (ns.map V.int)) ∧ Q (.int ns.sum) H) := by
  intro pins s σ H xs us Q I r h
  obtain ⟨p, ns, rfl, hp, q⟩ := h
  obtain ⟨u, rfl, ru⟩ := vals1 r
  cases ru
  have hh : X.A.in1.handled = none := I.ok.hd hc
  have vals : ∀ {its : List Value}, Vals (ns.map V.int) its → its.length = ns.length ∧ ∀ (i : Nat) (v : Value), its.toArray[i]? = some v → ∃ t, v = Value.int (ns.getD i 0) t := by
    intro its rv
    have hlen : its.length = ns.length := by rw [← rv.length, List.length_map]
    refine ⟨hlen, fun i v hP => ?_⟩
    have hi : its[i]? = some v := by simpa using hP
    have hib : i < ns.length := by rw [← hlen]; exact (List.getElem?_eq_some_iff.mp hi).1
    obtain ⟨u, hu, ru⟩ := rv.get (i := i) (x := V.int ns[i]) (by rw [List.getElem?_map, List.getElem?_eq_getElem hib]; rfl)
    rw [hi] at hu; cases hu
    obtain ⟨t, e⟩ := (show ∃ t, v = Value.int ns[i] t from ru)
    exact ⟨t, by rw [e]; simp [List.getD, hib]⟩
  have fin : ∀ {n : Nat}, n = ns.length → preSum (fun i => ns.getD i 0) n = ns.sum := fun {n} e => by rw [preSum_take ns n (by omega), List.take_of_length_le (by omega)]
  rcases hp with hp | hp
  · obtain ⟨its, rv, pl, hz⟩ := I.list hp
    obtain ⟨hlen, hv⟩ := vals rv
    have hl := pl.isList
    have hlt := pl.lt
    refine call_sum_walkG (wpAny_pyIter_list hl ?_)
    refine ⟨s.heap.objs.size, [s.heap.objs.size, p], [s.heap.objs.size], its.toArray.size, _, _, fun i => ns.getD i 0, rfl, Walks.list (A := X.A.in1) hh _ p (Nat.ne_of_lt hlt) its.toArray,
      ⟨⟨_, Heap.get?_push_size _ rfl, rfl, rfl⟩, hl.push _⟩, fun b hb => ?_, fun i v hP => hv i v hP, fun h' tk t' hk => ?_⟩
    · simp only [Heap.push, Array.size_push]
      rcases List.mem_cons.mp hb with e | e
      · rw [e]; exact Nat.lt_succ_self _
      · rw [List.mem_singleton.mp e]; exact Nat.lt_succ_of_lt hlt
    · have kk : ∀ b o, s.heap.get? b = some o → h'.get? b = some o := fun b o eb => hk b o (fun hm => by rw [List.mem_singleton.mp hm] at eb; exact Nat.lt_irrefl _ (Heap.lt_size eb)) (Heap.get?_push_of_some _ eb)
      rw [fin (by rw [List.size_toArray, hlen])]
      exact ⟨.int _, H, I.kept (t' := tk) kk, ⟨t', rfl⟩, q⟩
  · obtain ⟨its, rv, pl, hz⟩ := I.tuple hp
    obtain ⟨hlen, hv⟩ := vals rv
    have hl : s.heap.IsTuple p its.toArray := pl
    have hlt : p < s.heap.objs.size := by
      obtain ⟨o, e, _⟩ := id hl
      exact Heap.lt_size e
    refine call_sum_walkG (wpAny_pyIter_tuple hl ?_)
    refine ⟨s.heap.objs.size, [s.heap.objs.size, p], [s.heap.objs.size], its.toArray.size, _, _, fun i => ns.getD i 0, rfl, Walks.tuple (A := X.A.in1) hh _ p (Nat.ne_of_lt hlt) its.toArray,
      ⟨⟨_, Heap.get?_push_size _ rfl, rfl, rfl⟩, hl.push _⟩, fun b hb => ?_, fun i v hP => hv i v hP, fun h' tk t' hk => ?_⟩
    · simp only [Heap.push, Array.size_push]
      rcases List.mem_cons.mp hb with e | e
      · rw [e]; exact Nat.lt_succ_self _
      · rw [List.mem_singleton.mp e]; exact Nat.lt_succ_of_lt hlt
    · have kk : ∀ b o, s.heap.get? b = some o → h'.get? b = some o := fun b o eb => hk b o (fun hm => by rw [List.mem_singleton.mp hm] at eb; exact Nat.lt_irrefl _ (Heap.lt_size eb)) (Heap.get?_push_of_some _ eb)
      rw [fin (by rw [List.size_toArray, hlen])]
      exact ⟨.int _, H, I.kept (t' := tk) kk, ⟨t', rfl⟩, q⟩
end
end L2
set_option Elab.async false
set_option linter.all false
set_option maxRecDepth 100000
namespace Pb
open L2
section
variable {m : Int} {rs : List Road} {r : Int} {par : Int → Int} {dep : Int → Nat}
variable {held : Int → Int} {con : Int → Int → Int}
end
end Pb
set_option Elab.async false
set_option linter.all false
set_option maxRecDepth 100000
namespace Pb
open L2
section
variable {m : Int} {rs : List Road} {r : Int} {par : Int → Int} {dep : Int → Nat} {held : Int → Int}
end
section
open PySem
end
end Pb
set_option Elab.async false
set_option linter.all false
set_option maxRecDepth 100000
namespace L2
open PySem PySem.Spec PyProof.Rows
end L2
set_option Elab.async false
set_option linter.all false
set_option maxRecDepth 100000
namespace L2
open PySem PySem.Spec PyProof.Rows
def Itrs (lo st : Int) (n : Nat) : It := ⟨fun i _ => i < n, fun i H x H' => H' = H ∧ x = .int (lo + i * st), fun i _ => n ≤ i⟩
def iRng3 (ta : TA) : TI := fun σ H R => ta σ H fun vs H1 => ∃ i j c : Int, vs = [.int i, .int j, .int c] ∧ (0 ≤ i ∧ i ≤ 1000000 ∧ 0 ≤ j ∧ j ≤ 1000000 ∧ 0 < c ∧ c ≤ 1000000) ∧ R (Itrs i c (Builtin.Range.rangeSize i j c).toNat) H1
section
variable {X : Cx} {tg : Expr}
end
end L2
set_option Elab.async false
set_option linter.all false
set_option maxRecDepth 100000
namespace L2
open PySem PySem.Spec PyProof.Rows
theorem ixTS {K : PySem.W.Frag} {H : Hp} {p : Addr} {xs : List V} {i : Int} {v : V} {Q : VK} (h : SqT K H p xs) (e : atI xs i = some v) (q : Q v H) : rIxT K (.ref p) (.int i) H Q := ⟨p, xs, i, v, rfl, rfl, h, e, q⟩
end L2
namespace Pb
open L2 PySem
theorem pr_drop {α β : Type} {R : α → β → Prop} : ∀ (n : Nat) {l₁ : List α} {l₂ : List β}, Paired R l₁ l₂ → Paired R (l₁.drop n) (l₂.drop n)
  | 0, _, _, h => h
  | _ + 1, _, _, .nil => .nil
  | n + 1, _, _, .cons x xs => pr_drop n xs
theorem pr_app {α β : Type} {R : α → β → Prop} {k₁ : List α} {k₂ : List β} (h : Paired R k₁ k₂) : ∀ {l₁ : List α} {l₂ : List β}, Paired R l₁ l₂ → Paired R (l₁ ++ k₁) (l₂ ++ k₂)
  | _, _, .nil => h
  | _, _, .cons x xs => .cons x (pr_app h xs)
section
variable {m : Int} {rs : List Road} {r : Int} {par : Int → Int} {dep : Int → Nat}
end
end Pb
set_option Elab.async false
set_option linter.all false
set_option maxRecDepth 100000
namespace L2
open PySem PySem.Spec PyProof.Rows
theorem draws_of {P : Program} {w : World} {A : Around} {l : Addr} (c : Bool) {it : Addr} (hh : A.handled = none) (ne : l ≠ it) (its : Array Value) : Draws P w A it [it, l] its.size (fun i v => its[i]? = some v) (fun i h => zAt l c it i h ∧ zSrc l c h its) where
  live := fun i h st => let ⟨o, e, _⟩ := (zSub l c P w).obj _ _ _ st.1; ⟨o, e⟩
  frame := fun i h h' st k => ⟨(zSub l c P w).atK _ _ _ _ st.1 fun o e => k it (by simp) o e, (zSub l c P w).srcK _ _ _ st.2 fun o e => k l (by simp) o e⟩
  item := fun i s Q E hi st hq => (zSub l c P w).item A s it i its its[i] Q E st.1 st.2 (by simp [hi]) fun h' at' sb => hq its[i] h' s.toks (by simp [hi]) ⟨at', (zSub l c P w).srcK _ _ _ st.2 fun o e => sb.extBut _ _ ne e⟩ sb
  done := fun s Q E st hq => (zSub l c P w).fin A s it its.size its Q E hh st.1 st.2 (by simp) fun h' e eb he => hq h' e eb he
section
variable {P : Program} {w : World} {A : Around} {E : Value → Shared → Prop} {s : Shared} {l : Addr} {ob : Obj} {src : Heap → Array Value → Prop} {at' : Addr → Nat → Heap → Prop}
abbrev enObj (n : Nat) : Obj := { cls := .type "enumerate", data := .fields #[.none, .bool false, .ref n, rawInt 0, .none, .none] }
theorem enum_new_meets (S : ∀ P w, SubF P w l ob src at') (xs : Array Value) :
    Meets (Builtin.«enumerate.__new__» ⟨[.type "enumerate", .ref l], []⟩) (fun _ R s => src s.heap xs ∧ R (.ok (.ret (.ref (s.heap.push ob).objs.size))) { s with heap := (s.heap.push ob).push (enObj s.heap.objs.size) }) :=
  .of_wp fun prog w A R s hyp => by
    obtain ⟨hp, g, d, tk, os⟩ := s
    obtain ⟨q1, r⟩ := hyp
    have zsub := sub_enumerate
    have B1 : src (Shared.heap ⟨hp, g, d, tk, os⟩) xs := q1
    wp_walk using ((S prog w).start _ _ _ _ _ B1)
    refine wpAny_stack_any fun st => ?_
    dsimp only
    refine wpAny_pure ?_
    have go : ∀ b : Bool, b = true ∨ b = false := fun b => by cases b <;> simp
    split
    · rename_i c _ _ _ _ _
      rcases go (c == Value.type "enumerate") with z | z
      · rw [z]
        wp_walk using ((S prog w).start _ _ _ _ _ B1)
        exact ⟨_, rfl, r⟩
      · rw [z]
        wp_walk using ((S prog w).start _ _ _ _ _ B1)
        exact ⟨_, rfl, r⟩
    · wp_walk using ((S prog w).start _ _ _ _ _ B1)
      exact ⟨_, rfl, r⟩
theorem enum_made (S : ∀ P w, SubF P w l ob src at') {xs : Array Value} {Q : Value → Shared → Prop} (q1 : src s.heap xs) (f1 : ob.isFreed = false)
    (h : ∀ h', IsEnum h' (s.heap.objs.size + 1) s.heap.objs.size 0 .none → at' s.heap.objs.size 0 h' → (∀ c o, s.heap.get? c = some o → h'.get? c = some o) → Q (.ref (s.heap.objs.size + 1)) { s with heap := h' }) :
    wpAny (model P w) A (call (.type "enumerate") [.ref l]) Q E s := by
  refine callType_new F.called_enumerate (by decide) (F.typeCall_enumerate_1 _) (F.newCall_enumerate_1 _) (fun obj => F.args_object_init_2 obj _) F.entry_enumerate_new (enum_new_meets S xs) ⟨q1, ?_⟩
  have n0 : (s.heap.push ob).objs.size = s.heap.objs.size + 1 := Heap.size_push ..
  have c2 : ((s.heap.push ob).push (enObj s.heap.objs.size)).get? (s.heap.push ob).objs.size = some (enObj s.heap.objs.size) := Heap.get?_push_size _ rfl
  have c1 : ((s.heap.push ob).push (enObj s.heap.objs.size)).get? s.heap.objs.size = some ob := Heap.get?_push_of_some _ (Heap.get?_push_size _ f1)
  show _ ∧ _
  rw [n0] at c2
  rw [n0]
  exact ⟨⟨_, c2, rfl⟩, h _ c2 ((S P w).first _ _ c1) fun c o e => Heap.get?_push_of_some _ (Heap.get?_push_of_some _ e)⟩
end
def Ite (K : PySem.W.Frag) (c : Bool) (a : Addr) : It :=
  ⟨fun i H => ∃ xs x, SqX K c H a xs ∧ xs[i]? = some x,
   fun i H v H' => ∃ p x, H p = none ∧ v = .ref p ∧ H' = upd H p (.tup [.int i, x]) ∧ ∀ xs, SqX K c H a xs → xs[i]? = some x,
   fun i H => ∃ xs, SqX K c H a xs ∧ xs.length = i⟩
theorem turn_enum {P : Program} {w : World} {K : PySem.W.Frag} {elts : List Expr} {x1} {tpos : Pos} (c : Bool) (a e it : Addr) (ne : e ≠ it) (ae : a ≠ e) (ai : a ≠ it) :
    Turn P w K (.Tuple elts x1 tpos) (Ite K c a) [e, it] e (fun i h => (∃ old, IsEnum h e it (i : Nat) old) ∧ zAt a c it i h) where
  mem := by simp
  obj := fun i h t b hb => by
    obtain ⟨⟨old, t1⟩, t2⟩ := t
    simp only [List.mem_cons, List.mem_nil_iff, or_false] at hb
    rcases hb with rfl | rfl
    · exact ⟨_, t1, fun v z => by cases z⟩
    · exact (zSub a c P w).obj _ _ _ t2
  keep := fun i h h' t k => by
    obtain ⟨⟨old, t1⟩, t2⟩ := t
    exact ⟨⟨old, k e (by simp) _ t1⟩, (zSub a c P w).atK _ _ _ _ t2 fun o e => k it (by simp) o e⟩
  item := fun X e1 e2 e3 hc i pins s σ H E I f t g => by
    subst e1 e2 e3
    obtain ⟨⟨old, t1⟩, t2⟩ := t
    obtain ⟨xs, x, s1, hx⟩ := g
    obtain ⟨us, r1, q1⟩ := I.sqX s1
    obtain ⟨xu, hxu, rx⟩ := r1.get hx
    have hh : X.A.in1.handled = none := I.ok.hd hc
    have fz : ∀ q ∈ [e, it], FpOk X pins H q := f
    have W := WalksT.enumerateD (A := X.A) (draws_of (P := X.prog) (w := X.w) (A := X.A.in1) (l := a) c (it := it) hh ai us.toArray) e ne (by simp; exact ⟨ne, ae.symm⟩) (by simp)
    have hil : i < us.toArray.size := by
      have := (List.getElem?_eq_some_iff.mp hxu).1
      simpa using this
    refine W.item i s _ _ hil ⟨⟨old, t1⟩, t2, q1⟩ fun T vals h' tk pt le tup mid keep => ?_
    refine ⟨_, rfl, W.go elts x1 tpos i T { s with heap := h', toks := tk } _ _ mid fun h2 st2 keep2 => ?_⟩
    obtain ⟨tt, xv, px, ev⟩ := pt
    have exv : xv = xu := by
      have h1 : us[i]? = some xv := by simpa using px
      rw [hxu] at h1
      cases h1
      rfl
    subst exv
    have Tw : T ∉ [e, it] := W.apart i T h' mid
    have kp : ∀ q o, q ∉ [e, it] → s.heap.get? q = some o → h2.get? q = some o := fun q o hq eo => keep2 q o hq (keep q o hq eo)
    obtain ⟨ot, ht, hct, nt, hdt⟩ := tup
    have new : h2.get? T = some ot := keep2 T ot Tw ht
    have Hn : ∀ q u, H q = some u → q ∉ [e, it] := fun q u e hq => by rw [(fz q hq).1] at e; cases e
    have nH : H T = none := I.hok.fresh le
    have Tb : ∀ q o, s.heap.get? q = some o → q ≠ T := fun q o eo => Nat.ne_of_lt (Nat.lt_of_lt_of_le (Heap.lt_size eo) le)
    have I2 : Inv X pins σ H { s with heap := h2, toks := tk } := by
      refine I.step (g' := s.gens) (d' := s.drawn) (t' := tk) (ch := [e, it]) (fun q hq => ⟨(fz q hq).2.2.2.1, (fz q hq).2.1, (fz q hq).2.2.2.2.1, (fz q hq).2.2.2.2.2⟩) (fun q o _ _ hq e _ => kp q o hq e) (fun q o _ _ hq e _ => ⟨o.slots, kp q o hq e⟩) (fun _ _ _ _ n => n)
        (fun q o hq e => ⟨o, kp q o hq e⟩) (fun _ _ e => e) (fun _ _ _ e => e) (fun q ps e => ⟨#[], by rw [e]; simp⟩) (fun m hm => ?_) (fun q u e => ?_) I.bare
      · obtain ⟨o, es, ep, ho, r⟩ := hm
        exact ⟨o, es, ep, kp _ o (fun hq => (fz _ hq).2.1 rfl) ho, r⟩
      · refine (I.hok q u e).stay (fun q' v hq' e' => kp q' v ?_ e') (fun _ e' => e') fun _ _ e' => e'
        rcases hq' with rfl | hq'
        · exact Hn _ u e
        · exact Hn _ _ hq'
    have I3 : Inv X pins σ (upd H T (.tup [.int i, x])) { s with heap := h2, toks := tk } := by
      refine ⟨I2.ok, I2.os, I2.bare, ?_, I2.loc, I2.cell, ?_, fun n c e => ?_, fun p hp => ?_, fun q u e => ?_, I2.len⟩
      · refine ⟨I2.base.keep, I2.base.slot, fun q o e n hx => ?_, I2.base.there, fun q xs e => ?_, fun q o u e => ?_, fun q ps e => ?_⟩
        · have lt : q < X.s₀.heap.objs.size := Heap.lt_size e
          rw [upd_ne (Nat.ne_of_lt (Nat.lt_of_lt_of_le lt (Nat.le_trans I.sz le)))]
          exact I2.base.free q o e n hx
        · have e' := I2.base.tups q xs e
          rw [upd_ne (fun z => by rw [z, nH] at e'; cases e')]
          exact e'
        · have e' := I2.base.frzs q o u e
          rw [upd_ne (fun z => by rw [z, nH] at e'; cases e')]
          exact e'
        · obtain ⟨more, e'⟩ := I2.base.tbls q ps e
          exact ⟨more, by rw [upd_ne (fun z => by rw [z, nH] at e'; cases e')]; exact e'⟩
      · rw [upd_ne (Nat.ne_of_lt (Nat.lt_of_lt_of_le I.lt le))]
        exact I2.free
      · obtain ⟨vv, o, ho, _⟩ := I.cell n c e
        rw [upd_ne (Tb _ _ ho)]
        exact I2.freeC n c e
      · obtain ⟨k1, k2, k3⟩ := I.pin p hp
        rw [upd_ne (Tb _ _ k1)]
        exact I2.pin p hp
      · by_cases hq : q = T
        · subst hq
          rw [upd_same] at e; cases e
          refine ⟨by show 2 ≤ sizeLine; decide, [.int (i : Nat) tt, xv], .cons ⟨tt, rfl⟩ (.cons rx .nil), ot, new, hct, nt, ?_⟩
          rw [hdt, ev]
        · rw [upd_ne hq] at e
          refine (I2.hok q u e).stay (fun _ _ _ e' => e') (fun q' e' => ?_) fun q' xs e' => ?_
          · rw [upd_ne (fun z => by rw [z, nH] at e'; cases e')]; exact e'
          · rw [upd_ne (fun z => by rw [z, nH] at e'; cases e')]; exact e'
    refine ⟨.ref T, _, I3, rfl, ⟨T, x, nH, rfl, rfl, fun xs' q => ?_⟩, ⟨st2.1, st2.2.1⟩, fun q hq => ?_⟩
    · rw [← I.sqX_inj s1 q]; exact hx
    · have hlt : q ≠ T := by
        simp only [List.mem_cons, List.mem_nil_iff, or_false] at hq
        rcases hq with rfl | rfl
        · exact Tb _ _ t1
        · exact let ⟨o, e, _⟩ := (zSub a c X.prog X.w).obj _ _ _ t2; Tb _ _ e
      rw [upd_ne hlt]
      exact (fz q hq).1
  done := fun X e1 e2 e3 hc i pins s σ H E I f t g => by
    subst e1 e2 e3
    obtain ⟨⟨old, t1⟩, t2⟩ := t
    obtain ⟨xs, s1, hend⟩ := g
    obtain ⟨us, r1, q1⟩ := I.sqX s1
    have hh : X.A.in1.handled = none := I.ok.hd hc
    have fz : ∀ q ∈ [e, it], FpOk X pins H q := f
    have W := WalksT.enumerateD (A := X.A) (draws_of (P := X.prog) (w := X.w) (A := X.A.in1) (l := a) c (it := it) hh ai us.toArray) e ne (by simp; exact ⟨ne, ae.symm⟩) (by simp)
    have ei : i = us.toArray.size := by
      have := r1.length
      simp
      omega
    subst ei
    refine W.done s _ _ ⟨⟨old, t1⟩, t2, q1⟩ fun h' tk keep => ⟨rfl, ?_⟩
    have kp : ∀ q o, q ∉ [e, it] → s.heap.get? q = some o → h'.get? q = some o := fun q o hq e => keep q o hq e
    have Hn : ∀ q u, H q = some u → q ∉ [e, it] := fun q u e hq => by rw [(fz q hq).1] at e; cases e
    refine I.step (g' := s.gens) (d' := s.drawn) (t' := tk) (ch := [e, it]) (fun q hq => ⟨(fz q hq).2.2.2.1, (fz q hq).2.1, (fz q hq).2.2.2.2.1, (fz q hq).2.2.2.2.2⟩) (fun q o _ _ hq e _ => kp q o hq e) (fun q o _ _ hq e _ => ⟨o.slots, kp q o hq e⟩) (fun _ _ _ _ n => n)
      (fun q o hq e => ⟨o, kp q o hq e⟩) (fun _ _ e => e) (fun _ _ _ e => e) (fun q ps e => ⟨#[], by rw [e]; simp⟩) (fun m hm => ?_) (fun q u e => ?_) I.bare
    · obtain ⟨o, es, ep, ho, r⟩ := hm
      exact ⟨o, es, ep, kp _ o (fun hq => (fz _ hq).2.1 rfl) ho, r⟩
    · refine (I.hok q u e).stay (fun q' v hq' e' => kp q' v ?_ e') (fun _ e' => e') fun _ _ e' => e'
      rcases hq' with rfl | hq'
      · exact Hn _ u e
      · exact Hn _ _ hq'
  self := fun A i s Q E t q => by
    obtain ⟨⟨old, t1⟩, t2⟩ := t
    exact wpAny_pyIter_enum t1 q
def iEnum (K : PySem.W.Frag) (c : Bool) (tl : TE) : TI := fun σ H R => tl σ H fun x H1 => ∃ a, x = .ref a ∧ (∃ xs, SqX K c H1 a xs) ∧ R (Ite K c a) H1
section
variable {X : Cx} {e : Expr} {te : TE} {p2 pos : Pos}
theorem pi_enum {elts : List Expr} {x1} {tpos : Pos} (c : Bool) (hg : Gl X "enumerate") (hm : X.mg "enumerate" = none) (he : PE X e te) (h2 : starEach [e] X.env = [(false, eval e X.env)] := by rfl) : PI X (.Tuple elts x1 tpos) (.Call (.Name "enumerate" p2) [e] [] pos) (iEnum X.K c te) := by
  intro pins s σ H R I h
  refine Call_ (ld_blt I hg hm boot_enumerate (PyProof.Rows.callWith_type1 ?_ h2 rfl))
  rw [h2]
  show wpAny _ _ (spliced ((false, eval e X.env) :: backTo pos [])) _ _ s
  refine Calls.spliced_cons (thnE (he pins s σ H _ I h) fun u s1 x H1 I1 r1 q1 => Calls.spliced_nil ?_)
  obtain ⟨a, ex, ⟨xs, sa⟩, q⟩ := q1
  subst ex
  cases r1
  obtain ⟨us, r1, q1⟩ := I1.sqX sa
  obtain ⟨oa, hoa⟩ := zSrc_there a c _ _ q1
  have la := Heap.lt_size hoa
  refine enum_made (zSub a c) q1 (zObj_free a c) fun h' w1 w2 w3 => ?_
  refine wpAny_pyIter_enum w1 ?_
  refine ⟨_, [s1.heap.objs.size + 1, s1.heap.objs.size], _, _, H1, rfl, I1.kept (t' := s1.toks) w3, turn_enum c a _ _ (Nat.succ_ne_self _) (Nat.ne_of_lt (Nat.lt_succ_of_lt la)) (Nat.ne_of_lt la), ⟨⟨_, w1⟩, w2⟩, fun b hb => ?_, q⟩
  have hle : s1.heap.objs.size ≤ b := by
    simp only [List.mem_cons, List.mem_nil_iff, or_false] at hb
    rcases hb with rfl | rfl
    · exact Nat.le_succ _
    · exact Nat.le_refl _
  exact I1.fpOk hle (I1.hok.fresh hle)
end
theorem for_enum {K : PySem.W.Frag} {c : Bool} {a : Addr} {xs : List V} {g : TG} {tb : TS} {D : Ends} {σ : St} {H : Hp} (Pv : Nat → St → Hp → Prop) (h0 : Pv 0 σ H) (hl : ∀ i σ H, Pv i σ H → SqX K c H a xs)
    (hs : ∀ (i : Nat) (x : V) (σ : St) (H : Hp) (p : Addr) (N : St → Hp → Prop), (∀ σ' H', Pv (i + 1) σ' H' → N σ' H') → xs[i]? = some x → Pv i σ H → H p = none → g (.ref p) σ (upd H p (.tup [.int i, x])) fun σ2 H2 => tb { D with nx := N, ct := N, bk := D.nx } σ2 H2)
    (hd : ∀ σ H, Pv xs.length σ H → D.nx σ H) : ForGo (Ite K c a) D g tb σ H := by
  refine ⟨fun i m σ H => m = xs.length - i ∧ i ≤ xs.length ∧ Pv i σ H, ⟨_, rfl, Nat.zero_le _, h0⟩, ?_⟩
  rintro i m σ H ⟨rfl, hi, p⟩
  have q1 := hl i σ H p
  by_cases hlt : i < xs.length
  · refine .inr ⟨⟨xs, xs[i], q1, List.getElem?_eq_getElem hlt⟩, fun σ' H' => ∃ m', m' < xs.length - i ∧ (m' = xs.length - (i + 1) ∧ i + 1 ≤ xs.length ∧ Pv (i + 1) σ' H'), fun σ' H' z => z, fun x H' y => ?_⟩
    obtain ⟨p', x', hp, rfl, rfl, e1⟩ := y
    exact hs i x' σ H p' _ (fun σ' H' p' => ⟨xs.length - (i + 1), by omega, rfl, hlt, p'⟩) (e1 xs q1) p hp
  · have e : i = xs.length := by omega
    subst e
    exact .inl ⟨⟨xs, q1, rfl⟩, hd σ H p⟩
end L2
set_option Elab.async false
set_option linter.all false
set_option maxRecDepth 100000
namespace Pb
open L2 PySem
theorem pr_get {α β : Type} {R : α → β → Prop} : ∀ {ps : List α} {vs : List β} {i : Nat} {x : α}, Paired R ps vs → ps[i]? = some x → ∃ v, vs[i]? = some v ∧ R x v
  | _, _, i, x, .nil, e => by simp at e
  | _, _, 0, x, .cons (a := p) (b := r) h hs, e => by
    have : p = x := by simpa using e
    subst this
    exact ⟨r, by simp, h⟩
  | a :: l1, _, i + 1, x, .cons h hs, e => by
    have e' : l1[i]? = some x := by simpa using e
    obtain ⟨v, h1, h2⟩ := pr_get hs e'
    exact ⟨v, by simpa using h1, h2⟩
end Pb
namespace L2
open PySem PySem.Spec PyProof.Rows
def tPar3 (i j k : Nat) (ta : TA) : TS := fun D σ H => ta σ H fun vs H1 => ∃ v w z, vs = [v, w, z] ∧ D.nx (((σ.set i (some v)).set j (some w)).set k (some z)) H1
end L2
set_option Elab.async false
set_option linter.all false
set_option maxRecDepth 100000
namespace Pb
open L2
section
variable {m : Int} {rs : List Road} {r : Int} {par : Int → Int} {dep : Int → Nat} {held held' : Int → Int} {con : Int → Int → Int}
end
end Pb
set_option Elab.async false
set_option linter.all false
set_option maxRecDepth 100000
namespace L2
open PySem PySem.Spec PyProof.Rows
theorem cut_hi (zs : List V) {k : Int} (k0 : 0 ≤ k) : cutV zs none (some k) = zs.take k.toNat := by
  unfold cutV
  have e1 : HT.sIx zs.length 0 none = 0 := rfl
  have e2 : HT.sIx zs.length zs.length (some k) = min k.toNat zs.length := by
    show (if k < 0 then (k + (zs.length : Int)).toNat else min k.toNat zs.length) = _
    rw [if_neg (by omega)]
  rw [e1, e2, List.drop_zero, Nat.sub_zero, List.take_eq_take_iff]
  omega
end L2
namespace Pb
open L2 PySem
end Pb
set_option Elab.async false
set_option linter.all false
set_option maxRecDepth 100000
namespace Pb
open L2 PySem
section
variable {m : Int} {rs : List Road}
end
def AtX (c : Bool) (H : Hp) (a : Addr) (xs : List V) : Prop := H a = some (if c then .lst xs else .tup xs)
theorem AtX.sq {K : PySem.W.Frag} {c : Bool} {H : Hp} {a : Addr} {xs : List V} (h : AtX c H a xs) : SqX K c H a xs := by
  cases c
  · exact SqT.of h
  · exact SqL.of h
end Pb
set_option Elab.async false
set_option linter.all false
set_option maxRecDepth 100000
namespace L2
open PySem PySem.Spec PyProof.Rows
section
variable {X : Cx} {i o : Expr} {ty td : TE}
def tDInN (ty td : TE) : TE := fun σ H Q => ty σ H fun y H1 => td σ H1 fun x H2 => ∃ a, x = .ref a ∧ ((∃ o, DGet H2 a y o ∧ Q (.bl o.isSome) H2) ∨ (y = .non ∧ (∃ kvs, H2 a = some (.dK kvs)) ∧ Q (.bl false) H2))
end
end L2
set_option Elab.async false
set_option linter.all false
set_option maxRecDepth 100000
namespace Pb
open L2 PySem
section
variable {m : Int} {rs : List Road} {r b : Int} {par : Int → Int} {dep : Int → Nat}
end
end Pb
namespace L2
theorem cutS {A B : TS} {D : Ends} {σ : St} {H : Hp} (h : ∀ N : St → Hp → Prop, (∀ σ' H', B D σ' H' → N σ' H') → A { D with nx := N } σ H) : tSeq A B D σ H := h (B D) fun _ _ z => z
end L2
set_option Elab.async false
set_option linter.all false
set_option maxRecDepth 100000
namespace L2
open PySem
theorem for_listH {K : PySem.W.Frag} {a : Addr} {xs : List V} {g : TG} {tb : TS} {D : Ends} {σ : St} {H : Hp} (Pv : Nat → St → Hp → Prop) (h0 : Pv 0 σ H) (hl : ∀ i σ H, i ≤ xs.length → Pv i σ H → SqL K H a xs)
    (hs : ∀ (i : Nat) (x : V) (σ : St) (H : Hp) (N B : St → Hp → Prop), (∀ σ H, (g x σ H fun σ2 H2 => tb { D with nx := N, ct := N, bk := D.nx } σ2 H2) → B σ H) → (∀ σ' H', Pv (i + 1) σ' H' → N σ' H') → xs[i]? = some x → Pv i σ H → B σ H)
    (hd : ∀ (B : St → Hp → Prop) σ H, (∀ σ H, D.nx σ H → B σ H) → Pv xs.length σ H → B σ H) : ForGo (Itl K a) D g tb σ H :=
  for_listN Pv h0 hl (fun i x σ H N hN hx p => hs i x σ H N (fun σ H => g x σ H fun σ2 H2 => tb { D with nx := N, ct := N, bk := D.nx } σ2 H2) (fun _ _ z => z) hN hx p) fun σ H p => hd (fun σ H => D.nx σ H) σ H (fun _ _ z => z) p
theorem for_rangeH {lo : Int} {n : Nat} {g : TG} {tb : TS} {D : Ends} {σ : St} {H : Hp} (Pv : Nat → St → Hp → Prop) (h0 : Pv 0 σ H)
    (hs : ∀ (i : Nat) (σ : St) (H : Hp) (N B : St → Hp → Prop), (∀ σ H, (g (.int (lo + i)) σ H fun σ2 H2 => tb { D with nx := N, ct := N, bk := D.nx } σ2 H2) → B σ H) → (∀ σ' H', Pv (i + 1) σ' H' → N σ' H') → i < n → Pv i σ H → B σ H)
    (hd : ∀ (B : St → Hp → Prop) σ H, (∀ σ H, D.nx σ H → B σ H) → Pv n σ H → B σ H) : ForGo (Itr lo n) D g tb σ H :=
  for_rangeN Pv h0 (fun i σ H N hN hi p => hs i σ H N (fun σ H => g (.int (lo + i)) σ H fun σ2 H2 => tb { D with nx := N, ct := N, bk := D.nx } σ2 H2) (fun _ _ z => z) hN hi p) fun σ H p => hd (fun σ H => D.nx σ H) σ H (fun _ _ z => z) p
theorem while_H {c : TT} {tb : TS} {D : Ends} {σ : St} {H : Hp} (W : Nat → St → Hp → Prop) (n0 : Nat) (h0 : W n0 σ H)
    (hs : ∀ (n : Nat) (σ : St) (H : Hp) (N : St → Hp → Prop) (B : Nat → St → Hp → Prop), (∀ n σ H, (c σ H fun b H1 => if b = true then ∃ N : St → Hp → Prop, (∀ σ' H', N σ' H' → ∃ m', m' < n ∧ W m' σ' H') ∧ tb { D with nx := N, ct := N, bk := D.nx } σ H1 else D.nx σ H1) → B n σ H) → (∀ n' σ' H', n' < n → W n' σ' H' → N σ' H') → (∀ σ' H', N σ' H' → ∃ m', m' < n ∧ W m' σ' H') → W n σ H → B n σ H) : tWhile c tb D σ H :=
  while_n W n0 h0 fun n σ H N hN hN2 w => hs n σ H N (fun n σ H => c σ H fun b H1 => if b = true then ∃ N : St → Hp → Prop, (∀ σ' H', N σ' H' → ∃ m', m' < n ∧ W m' σ' H') ∧ tb { D with nx := N, ct := N, bk := D.nx } σ H1 else D.nx σ H1) (fun _ _ _ z => z) hN hN2 w
end L2
set_option Elab.async false
set_option linter.all false
set_option maxRecDepth 100000
namespace Pb
open L2 PySem
section
variable {m : Int} {rs : List Road} {r : Int} {par : Int → Int} {dep : Int → Nat}
variable {para parb parc : Int → Int} {depa depb depc : Int → Nat} {a b c : Int}
end
section
variable {m : Int} {rs : List Road} {r b : Int} {par : Int → Int} {dep : Int → Nat}
end
end Pb
set_option Elab.async false
set_option linter.all false
set_option maxRecDepth 100000
namespace Pb
open L2 PySem
section
variable {m : Int} {rs : List Road} {r b : Int} {par : Int → Int} {dep : Int → Nat}
end
end Pb
set_option Elab.async false
set_option linter.all false
namespace L2
open PySem
def CDivL (_ j : Int) : Prop := 0 < j ∧ j.natAbs.log2 < 9000
theorem op_fdivL {X : Cx} : OpR X (binaryOp .FloorDiv) (rI CDivL fun i j => .int (i / j)) := opI fun i j _ _ _ _ _ hc q => by
  have h1 : (0 : Int) < j := hc.1
  exact PyProof.Rows.floordiv_int (by omega) (by rw [Int.fdiv_eq_ediv_of_nonneg i (by omega)]; exact q) (.inl (PyProof.noPylong_of_log2 hc.2))
end L2
namespace Pb
open PySem L2
end Pb
set_option Elab.async false
set_option linter.all false
set_option maxRecDepth 100000
set_option exponentiation.threshold 5000
namespace Pb
open L2 PySem
section
variable {m : Int} {rs : List Road} {r : Int} {par : Int → Int} {dep : Int → Nat}
variable {op : Int → Int → Int} {held : Int → Int} {con : Int → Int → Int}
end
end Pb
set_option Elab.async false
set_option linter.all false
set_option maxRecDepth 100000
namespace L2
open PySem PySem.Spec PyProof.Rows
section
variable {X : Cx}
end
end L2
namespace Pb
end Pb
set_option Elab.async false
set_option linter.all false
set_option maxRecDepth 100000
namespace L2
open PySem PySem.Spec PyProof.Rows
section
variable {X : Cx}
end
end L2
set_option Elab.async false
set_option linter.all false
set_option maxRecDepth 100000
namespace L2
open PySem PySem.Spec PyProof.Rows
section
variable {P : Program} {w : World} {A : Around} {R : Result → Shared → Prop} {I S : Addr} {fp wr : List Addr} {n : Nat} {Pv : Nat → Value → Prop} {St : Nat → Heap → Prop} {bt : Nat → Nat → Bool} {kw : List (Str × Value)}
end
section
variable {X : Cx} {x : Str} {p pos kpos : Pos} {e de : Expr} {t tk : TA}
def tMinD (K : PySem.W.Frag) (t tk : TA) : TE := fun σ H Q => t σ H fun vs H1 => tk σ H1 fun zs H2 => ∃ (q : Addr) (ns : List Int) (d : V), vs = [.ref q] ∧ zs = [d] ∧ SqL K H2 q (ns.map V.int) ∧ ns ≠ [] ∧ ∀ y, y ∈ ns → (∀ x ∈ ns, y ≤ x) → Q (.int y) H2
def tNotT (t : TE) : TE := fun σ H Q => t σ H fun x H1 => ∃ b, x = .bl b ∧ Q (.bl (b != true)) H1
end
end L2
set_option Elab.async false
set_option linter.all false
set_option maxRecDepth 100000
namespace Pb
open L2 PySem
section
variable {m : Int} {rs : List Road} {r : Int} {par : Int → Int} {dep : Int → Nat}
variable {ch : Int → Option Int} {w : Int} {cn : Int → Int}
end
end Pb
set_option Elab.async false
set_option linter.all false
set_option maxRecDepth 100000
namespace L2
open PySem PySem.Spec PyProof.Rows PySem.W
section
variable {n : Nat}
variable (hn : 0 < n)
include hn
end
section
variable {prog : Program} {w : World} {A : Around} {E : Value → Shared → Prop} {s : Shared}
end
end L2
set_option Elab.async false
set_option linter.all false
set_option maxRecDepth 100000
namespace L2
open PySem PySem.Spec PyProof.Rows PySem.W Pb
section
variable {prog : Program} {w : World} {A : Around} {E : Value → Shared → Prop} {s : Shared} {it d : Addr} {i ep : Nat} {es : Array DictEntry}
end
section
variable {prog : Program} {w : World} {A : Around} {E : Value → Shared → Prop} {s : Shared} {fin : Bool} {C : Bool → Shared → Prop}
end
section
variable {prog : Program} {w : World} {A : Around} {E : Value → Shared → Prop} {s : Shared}
end
section
variable {X : Cx}
end
end L2
set_option Elab.async false
set_option linter.all false
set_option maxRecDepth 100000
namespace L2
end L2
namespace Pb
open L2 PySem
section
variable {m : Int} {rs : List Road} {r : Int} {par : Int → Int} {dep : Int → Nat}
end
section
end
end Pb
set_option Elab.async false
set_option linter.all false
set_option maxRecDepth 100000
namespace L2
open PySem PySem.Spec PyProof.Rows
def tDispT (tk tv : TE) : TE := fun σ H Q => ∀ p, H p = none → tPairs [(tk, tv)] σ (upd H p (.dT [])) fun ps H2 => H2 p = some (.dT []) ∧ ∃ (k : List Key) (b : Addr) (y : V), ps = [(.ref b, y)] ∧ H2 b = some (.tup (k.map kV)) ∧ Q (.ref p) (upd H2 p (.dT [(k, y)]))
end L2
set_option Elab.async false
set_option linter.all false
set_option maxRecDepth 100000
namespace Pb
open L2 PySem
end Pb
namespace Pb
open L2 PySem
section
variable {m : Int} {rs : List Road} {xs : List Int}
variable {r : Int} {par : Int → Int} {dep : Int → Nat}
end
end Pb
set_option Elab.async false
set_option linter.all false
set_option maxRecDepth 100000
namespace L2
open PySem PySem.Spec PyProof.Rows Pb
section
variable {X : Cx}
end
end L2
set_option Elab.async false
set_option linter.all false
set_option maxRecDepth 100000
namespace L2
open PySem PySem.Spec PyProof.Rows
theorem pb_abs : bootBuiltins "abs" = some (.builtin "abs") := by decide +kernel
def CDivLN (_ j : Int) : Prop := j ≠ 0 ∧ j.natAbs.log2 < 9000
theorem op_fdivLN {X : Cx} : OpR X (binaryOp .FloorDiv) (rI CDivLN fun i j => .int (i.fdiv j)) := opI fun i j _ _ _ _ _ hc q => PyProof.Rows.floordiv_int hc.1 q (.inl (PyProof.noPylong_of_log2 hc.2))
theorem log_bits {j : Int} {n : Nat} (h0 : j ≠ 0) (h : j.natAbs < 2 ^ n) (hn : n ≤ 9000) : j.natAbs.log2 < 9000 := Nat.lt_of_lt_of_le ((Nat.log2_lt (by omega)).mpr h) hn
end L2
namespace Pb
theorem gcd_fm (a b : Int) : Int.gcd b (a.fmod b) = Int.gcd a b := by
  rw [Int.fmod_def, Int.gcd_sub_mul_left_right, Int.gcd_comm]
theorem gcd_em (a b : Int) : Int.gcd b (a % b) = Int.gcd a b := by
  rw [Int.emod_def, Int.gcd_sub_mul_left_right, Int.gcd_comm]
theorem fmod_less {a b : Int} (h : b ≠ 0) : (a.fmod b).natAbs < b.natAbs := by
  have h1 := Int.emod_nonneg a h
  have h2 := Int.emod_lt a h
  rw [Int.fmod_eq_emod]
  split
  · omega
  · rename_i z
    have : a % b ≠ 0 := fun e => z (.inr (Int.dvd_of_emod_eq_zero e))
    omega
structure Frc (t b p q : Int) : Prop where
  pos : 0 < q
  one : p.gcd q = 1
  eq : p * b = t * q
theorem frc_of {t b c : Int} (h : b ≠ 0) (hc : c.natAbs = t.gcd b) (hs : 0 < c ↔ 0 < b) : Frc t b (t.fdiv c) (b.fdiv c) := by
  have gp := Int.gcd_pos_of_ne_zero_right t h
  have c0 : c ≠ 0 := by omega
  obtain ⟨x, hx⟩ : c ∣ t := Int.natAbs_dvd.mp (by rw [hc]; exact Int.gcd_dvd_left ..)
  obtain ⟨y, hy⟩ : c ∣ b := Int.natAbs_dvd.mp (by rw [hc]; exact Int.gcd_dvd_right ..)
  have e : c.natAbs * x.gcd y = c.natAbs * 1 := by rw [← Int.gcd_mul_left, ← hx, ← hy, ← hc, Nat.mul_one]
  subst hx hy
  rw [Int.mul_fdiv_cancel_left _ c0, Int.mul_fdiv_cancel_left _ c0]
  refine ⟨?_, Nat.eq_of_mul_eq_mul_left (by omega) e, ?_⟩
  · rcases Int.lt_or_gt_of_ne c0 with z | z
    · have : c * y ≤ 0 := by omega
      rcases Int.lt_trichotomy y 0 with w | w | w
      · have := Int.mul_pos_of_neg_of_neg z w; omega
      · subst w; simp at h
      · exact w
    · exact Int.pos_of_mul_pos_right (hs.mp z) z
  · rw [Int.mul_left_comm, Int.mul_assoc]
theorem cop_dvd {p q p' q' : Int} (one : p.gcd q = 1) (e : p * q' = p' * q) : q.natAbs ∣ q'.natAbs := by
  have h : Nat.Coprime q.natAbs p.natAbs := by
    show Nat.gcd _ _ = 1
    rw [Nat.gcd_comm]
    exact one
  refine h.dvd_of_dvd_mul_left (m := p.natAbs) ?_
  rw [← Int.natAbs_mul, e, Int.natAbs_mul]
  exact Nat.dvd_mul_left ..
theorem frc_eq {p q p' q' : Int} (h0 : 0 < q) (h1 : p.gcd q = 1) (h0' : 0 < q') (h1' : p'.gcd q' = 1) (e : p * q' = p' * q) : p = p' ∧ q = q' := by
  have d1 := cop_dvd h1 e
  have d2 := cop_dvd h1' e.symm
  have := Nat.dvd_antisymm d1 d2
  have e2 : q = q' := by omega
  subst e2
  exact ⟨Int.eq_of_mul_eq_mul_right (Int.ne_of_gt h0) e, rfl⟩
theorem frc_same {t b p q t' b' p' q' : Int} (h : Frc t b p q) (h' : Frc t' b' p' q') (e : t * b' = t' * b) (b0 : b ≠ 0) (b0' : b' ≠ 0) : p = p' ∧ q = q' := by
  refine frc_eq h.pos h.one h'.pos h'.one ?_
  have : (p * q') * (b * b') = (p' * q) * (b * b') := by
    calc (p * q') * (b * b') = (p * b) * (q' * b') := by ac_rfl
      _ = (t * b') * (q * q') := by rw [h.eq]; ac_rfl
      _ = (t' * q') * (b * q) := by rw [e]; ac_rfl
      _ = (p' * q) * (b * b') := by rw [← h'.eq]; ac_rfl
  exact Int.eq_of_mul_eq_mul_right (Int.mul_ne_zero b0 b0') this
theorem abs_eq (i : Int) : (if i < 0 then -i else i) = (i.natAbs : Int) := by split <;> omega
theorem frc_bd {t b p q : Int} (h : Frc t b p q) (b0 : b ≠ 0) : p.natAbs ≤ t.natAbs ∧ q.natAbs ≤ b.natAbs := by
  refine ⟨?_, Nat.le_of_dvd (by omega) (cop_dvd h.one h.eq)⟩
  by_cases c : t = 0
  · have e := h.eq
    rw [c, Int.zero_mul] at e
    rcases Int.mul_eq_zero.mp e with z | z
    · rw [z]; exact Nat.zero_le _
    · exact absurd z b0
  · refine Nat.le_of_dvd (by omega) ?_
    refine cop_dvd (p := q) (p' := b) (by rw [Int.gcd_comm]; exact h.one) ?_
    rw [Int.mul_comm, ← h.eq, Int.mul_comm]
theorem frc_tr {t b t' b' p q : Int} (h : Frc t b p q) (e : t * b' = t' * b) (b0 : b ≠ 0) : Frc t' b' p q := by
  refine ⟨h.pos, h.one, Int.eq_of_mul_eq_mul_right b0 ?_⟩
  calc (p * b') * b = (p * b) * b' := by ac_rfl
    _ = (t * b') * q := by rw [h.eq]; ac_rfl
    _ = (t' * q) * b := by rw [e]; ac_rfl
theorem gcd_abs (t b : Int) : Int.gcd (t.natAbs : Int) b = t.gcd b := by
  unfold Int.gcd
  rw [Int.natAbs_natCast]
def mulL (fs : List (Int × Int)) (tb : Int × Int) : Int × Int := fs.foldl (fun z f => (z.1 * f.2 + f.1 * z.2, z.2 * f.2)) tb
theorem mulL_sum {B : Int} : ∀ {fs : List (Int × Int)} {S : Int} {tb : Int × Int}, (∀ f ∈ fs, f.2 ∣ B) → S * tb.2 = tb.1 * B → (S + (fs.map fun f => f.1 * (B / f.2)).sum) * (mulL fs tb).2 = (mulL fs tb).1 * B
  | [], S, tb, _, e => by
    show (S + 0) * tb.2 = tb.1 * B
    rw [Int.add_zero]
    exact e
  | f :: fs, S, tb, h, e => by
    have ih := mulL_sum (fs := fs) (S := S + f.1 * (B / f.2)) (tb := (tb.1 * f.2 + f.1 * tb.2, tb.2 * f.2)) (fun g hg => h g (.tail _ hg)) (by
      show (S + f.1 * (B / f.2)) * (tb.2 * f.2) = (tb.1 * f.2 + f.1 * tb.2) * B
      have d : B / f.2 * f.2 = B := Int.ediv_mul_cancel (h f (.head _))
      calc (S + f.1 * (B / f.2)) * (tb.2 * f.2) = (S * tb.2) * f.2 + f.1 * tb.2 * (B / f.2 * f.2) := by rw [Int.add_mul]; congr 1 <;> ac_rfl
        _ = (tb.1 * f.2 + f.1 * tb.2) * B := by rw [e, d, Int.add_mul]; congr 1; ac_rfl)
    rw [List.map_cons, List.sum_cons, ← Int.add_assoc]
    exact ih
theorem mulL_pos : ∀ {fs : List (Int × Int)} {tb : Int × Int}, (∀ f ∈ fs, 0 < f.2) → 0 < tb.2 → 0 < (mulL fs tb).2
  | [], _, _, h => h
  | f :: fs, tb, h, h2 => mulL_pos (fs := fs) (tb := (tb.1 * f.2 + f.1 * tb.2, tb.2 * f.2)) (fun g hg => h g (.tail _ hg)) (Int.mul_pos h2 (h f (.head _)))
theorem lcm_step {b q : Int} (b0 : 0 < b) (q0 : 0 < q) : 0 < b * (q / (b.gcd q : Int)) ∧ q ∣ b * (q / (b.gcd q : Int)) := by
  obtain ⟨x, hx⟩ := Int.gcd_dvd_left b q
  obtain ⟨y, hy⟩ := Int.gcd_dvd_right b q
  have gp : (0 : Int) < b.gcd q := by have := Int.gcd_pos_of_ne_zero_right b (Int.ne_of_gt q0); omega
  have e : q / (b.gcd q : Int) = y := by
    conv => lhs; arg 1; rw [hy]
    exact Int.mul_ediv_cancel_left _ (Int.ne_of_gt gp)
  rw [e]
  have yp : 0 < y := Int.pos_of_mul_pos_right (by rw [← hy]; exact q0) gp
  refine ⟨Int.mul_pos b0 yp, x, ?_⟩
  calc b * y = (b.gcd q * x) * y := by rw [← hx]
    _ = (b.gcd q * y) * x := by ac_rfl
    _ = q * x := by rw [← hy]
end Pb
namespace L2
open PySem Pb
abbrev FrsAt (H : Hp) : List Addr → List (Int × Int) → Prop := Paired fun q f => H q = some (.tup [.int f.1, .int f.2])
theorem FrsAt.same {H H' : Hp} {qs : List Addr} {fs : List (Int × Int)} (e : Same H H') (h : FrsAt H qs fs) : FrsAt H' qs fs := Paired.imp' (fun q v x => e q _ x) h
def FrB (n : Nat) (f : Int × Int) : Prop := 0 < f.2 ∧ f.1.natAbs < 2 ^ n ∧ f.2.natAbs < 2 ^ n
def dFr (f : Int × Int) : PyData := .tuple [.int f.1, .int f.2]
theorem deep_fr {K : PySem.W.Frag} {H : Hp} {q : Addr} {f : Int × Int} (h : H q = some (.tup [.int f.1, .int f.2])) : Deep K H (.ref q) (dFr f) := .tup (SqT.of h) (.cons (.int _) (.cons (.int _) .nil))
theorem deep_frs {K : PySem.W.Frag} {H : Hp} : ∀ {qs : List Addr} {fs : List (Int × Int)}, FrsAt H qs fs → DeepAll K H (qs.map V.ref) (fs.map dFr)
  | _, _, .nil => .nil
  | _, _, .cons x xs => .cons (deep_fr x) (deep_frs xs)
theorem eqv_fr (f : Int × Int) : PyData.eqv (dFr f) (dFr f) = true := by simp [dFr, PyData.eqv, PyData.eqvAll]
theorem eqv_frs : ∀ fs : List (Int × Int), PyData.eqvAll (fs.map dFr) (fs.map dFr) = true
  | [] => by simp [PyData.eqvAll]
  | f :: fs => by
    have h1 := eqv_fr f
    have h2 := eqv_frs fs
    rw [List.map_cons]
    simp only [PyData.eqvAll, h1, h2, Bool.and_self]
theorem depth_frs : ∀ fs : List (Int × Int), PyData.depthAll (fs.map dFr) ≤ 1
  | [] => by simp [PyData.depthAll]
  | f :: fs => by
    have h2 := depth_frs fs
    rw [List.map_cons]
    simp only [PyData.depthAll, dFr, PyData.depth]
    simp
    omega
end L2
namespace L2
open PySem
theorem gtup2 {K : PySem.W.Frag} {i j : Nat} {a : Addr} {x y : V} {σ : St} {H : Hp} {Q : St → Hp → Prop} (h : SqT K H a [x, y]) (q : Q ((σ.set i (some x)).set j (some y)) H) : gTup K 2 (gCons (gName i) (gCons (gName j) gNil)) (.ref a) σ H Q :=
  ⟨a, _, rfl, h, rfl, _, _, rfl, _, _, rfl, rfl, q⟩
end L2
namespace L2
open PySem
theorem depth_fr (f : Int × Int) : (dFr f).depth ≤ 40 := by simp [dFr, PyData.depth, PyData.depthAll]
theorem deep_same {K : PySem.W.Frag} {H : Hp} {a b : Addr} {f : Int × Int} {Q : VK} (ha : H a = some (.tup [.int f.1, .int f.2])) (hb : H b = some (.tup [.int f.1, .int f.2])) (q : Q (.bl false) H) : rNeD K (.ref a) (.ref b) H Q :=
  ⟨_, _, deep_fr ha, deep_fr hb, depth_fr f, by rw [eqv_fr]; exact q⟩
theorem deep_sameE {K : PySem.W.Frag} {H : Hp} {a b : Addr} {f : Int × Int} {Q : VK} (ha : H a = some (.tup [.int f.1, .int f.2])) (hb : H b = some (.tup [.int f.1, .int f.2])) (q : Q (.bl true) H) : rEqD K (.ref a) (.ref b) H Q :=
  ⟨_, _, deep_fr ha, deep_fr hb, depth_fr f, by rw [eqv_fr]; exact q⟩
end L2
namespace L2
open PySem PySem.Spec PyProof.Rows Pb
theorem cut_back (zs : List V) {k : Int} (k0 : k < 0) : cutV zs (some k) none = zs.drop (k + zs.length).toNat := by
  unfold cutV
  have e1 : HT.sIx zs.length zs.length none = zs.length := rfl
  have e2 : HT.sIx zs.length 0 (some k) = (k + (zs.length : Int)).toNat := by
    show (if k < 0 then (k + (zs.length : Int)).toNat else min k.toNat zs.length) = _
    rw [if_pos k0]
  rw [e1, e2, List.take_of_length_le (by rw [List.length_drop]; omega)]
theorem mulL_snoc (fs : List (Int × Int)) (f : Int × Int) (tb : Int × Int) : mulL (fs ++ [f]) tb = ((mulL fs tb).1 * f.2 + f.1 * (mulL fs tb).2, (mulL fs tb).2 * f.2) := by
  unfold mulL
  rw [List.foldl_append]
  rfl
theorem mulL_bits {n : Nat} : ∀ {fs : List (Int × Int)} {tb : Int × Int} {b : Nat}, (∀ f ∈ fs, FrB n f) → tb.1.natAbs < 2 ^ b → tb.2.natAbs < 2 ^ b → (mulL fs tb).1.natAbs < 2 ^ (b + fs.length * (n + 1)) ∧ (mulL fs tb).2.natAbs < 2 ^ (b + fs.length * (n + 1))
  | [], tb, b, _, h1, h2 => by
    rw [List.length_nil, Nat.zero_mul, Nat.add_zero]
    exact ⟨h1, h2⟩
  | f :: fs, tb, b, h, h1, h2 => by
    obtain ⟨f0, fb1, fb2⟩ := h f (.head _)
    have a1 : (tb.1 * f.2 + f.1 * tb.2).natAbs < 2 ^ (b + n + 1) := add_bits (mul_bits h1 fb2) (by rw [Int.mul_comm]; exact mul_bits h2 fb1)
    have a2 : (tb.2 * f.2).natAbs < 2 ^ (b + n + 1) := up_bits (mul_bits h2 fb2) (by omega)
    have ih := mulL_bits (fs := fs) (tb := (tb.1 * f.2 + f.1 * tb.2, tb.2 * f.2)) (b := b + n + 1) (fun g hg => h g (.tail _ hg)) a1 a2
    rw [List.length_cons, show b + (fs.length + 1) * (n + 1) = b + n + 1 + fs.length * (n + 1) by rw [Nat.succ_mul]; omega]
    exact ih
end L2
set_option Elab.async false
set_option linter.all false
set_option maxRecDepth 100000
namespace Pb
open L2 PySem
section
variable {m : Int} {rs : List Road} {r : Int} {par : Int → Int} {dep : Int → Nat}
end
section
variable {m : Int} {rs : List Road} {xs : List Int}
end
end Pb
set_option Elab.async false
set_option linter.all false
set_option maxRecDepth 100000
namespace L2
open PySem PySem.Spec PyProof.Rows PySem.W Pb
section
variable {X : Cx} {pins : List (Addr × Obj)} {σ : St} {H : Hp} {s : Shared}
end
def Itd (d : Addr) (o : Obj) (kvs : List (List Key × V)) : It :=
  ⟨fun i H => H d = some (.frz o (.dT kvs)) ∧ i < kvs.length, fun i H x H' => H' = H ∧ ∃ (q : Addr) (k : List Key) (v : V), x = .ref q ∧ kvs[i]? = some (k, v) ∧ H q = some (.tup (k.map kV)), fun i H => H d = some (.frz o (.dT kvs)) ∧ i = kvs.length⟩
def tForD (tl : TE) (g : TG) (tb : TS) : TS := fun D σ H => tl σ H fun x H1 => ∃ (d : Addr) (kvs : List (List Key × V)), x = .ref d ∧ H1 d = some (.dT kvs) ∧
  ∀ o, ForGo (Itd d o kvs) { D with nx := fun σ' H' => H' d = some (.frz o (.dT kvs)) ∧ D.nx σ' (upd H' d (.dT kvs)) } g tb σ (upd H1 d (.frz o (.dT kvs)))
section
variable {X : Cx} {tg : Expr}
end
end L2
set_option Elab.async false
set_option linter.all false
set_option maxRecDepth 100000
set_option maxHeartbeats 4000000
namespace Pk
open PySem L2 Pb
seal L2.PSs L2.PS L2.PE L2.PT L2.PW L2.PA L2.PG L2.PGs L2.PI L2.PTs L2.PC L2.PPs L2.PO
def top (i : Nat) : Stmt := PySem.Challenge.pw_pebbletoll_k50_fractions_reckoned.main.body.getD i (.Pass ⟨0, 0, 0, 0⟩)
local macro_rules | `(tactic| walk_at "rd") => `(tactic| ((try dsimp only [tYes, tIsN, tNotN, Ends.less, tRaise_eq, tTry_eq, tHand_eq, tFor_eq, tForD, tComp_eq', iTup, iList, iAny, iRng1, iRng2, iRng3, iEnum, iRev, iZip, cxOf_K, tNever_eq, tListR, tRet, tRetN, tSeq, tNext, tAsg, gName, gTup, gCons, gNil, gSub, tPar3, tAugS, tAug, tMinD, tNotT, ipI, tIfS, tDrop, tTest, tB, tChain, tC, tVar, tOp, tUn, rI0, rI, rU, rEq, rNe, tCall, tMake, tCons, tNil, tTup, tLst, tCB, tBM, tBM0, tFld, sFld, tDIn, tDInN, tDNotIn, sDPut, tDGet, tDisp, tDispT, tPairs, tDNewK, tDNewT, tAnd, tOr, tNot, tAndV, tOrV, tNotV, tIf, List.nil_append, List.append_nil, List.set_cons_zero, List.set_cons_succ, List.getElem?_cons_zero, List.getElem?_cons_succ]); (try simp only [tYes, tIsN, tNotN, Ends.less, tRaise_eq, tTry_eq, tHand_eq, tFor_eq, tForD, tComp_eq', iTup, iList, iAny, iRng1, iRng2, iRng3, iEnum, iRev, iZip, cxOf_K, tNever_eq, tListR, tRet, tRetN, tSeq, tNext, tAsg, gName, gTup, gCons, gNil, gSub, tPar3, tAugS, tAug, tMinD, tNotT, ipI, tIfS, tDrop, tTest, tB, tChain, tC, tVar, tOp, tUn, rI0, rI, rU, rEq, rNe, scal_ii, scal_bb, scal_in, scal_ni, scal_nn, scal_ss, tCall, tMake, tCons, tNil, tTup, tLst, tCB, tBM, tBM0, tFld, sFld, tDIn, tDInN, tDNotIn, sDPut, tDGet, tDisp, tDispT, tPairs, tDNewK, tDNewT, tAnd, tOr, tNot, tAndV, tOrV, tNotV, tIf, List.nil_append, List.append_nil, List.set_cons_zero, List.set_cons_succ, List.getElem?_cons_zero, List.getElem?_cons_succ, Option.some.injEq, V.int.injEq, V.bl.injEq, V.ref.injEq, List.cons.injEq, exists_eq_left, exists_eq_left', exists_and_left, exists_const, and_true, true_and, decide_eq_true_eq, Bool.not_eq_true', decide_eq_false_iff_not, Bool.true_eq_false, Bool.false_eq_true, if_true, if_false])))
set_option genSizeOf false in
set_option genInjectivity false in
structure Txt (K : PySem.W.Frag) (mg : Str → Option Value) where
  range : mg "range" = none
  len : mg "len" = none
  isinstance : mg "isinstance" = none
  int : mg "int" = none
  bool : mg "bool" = none
  tuple : mg "tuple" = none
  list : mg "list" = none
  enumerate : mg "enumerate" = none
  sum : mg "sum" = none
  abs : mg "abs" = none
section
variable {P : Program} {w : World} {K : PySem.W.Frag} {mg : Str → Option Value} {base : Heap} {CX : CXT}
/-! #### _law_part -/
def sp_law_part (T : Txt K mg) : Sp := fun vs H Q _ => ∃ (i j : Int), vs = [.int i, .int j] ∧ 0 ≤ i ∧ 0 ≤ j ∧ Q (.int (i.gcd j : Int)) H
abbrev s_law_part : Stmt := top 12
theorem sc_law_part : FnScope ["one", "other", "rest"] ["one", "other"] (defScope s_law_part) := FnScope.of (by kernel_rfl)
theorem n_law_part__one : NmL (defScope s_law_part) "one" := .of (by kernel_rfl)
theorem n_law_part__other : NmL (defScope s_law_part) "other" := .of (by kernel_rfl)
theorem n_law_part__rest : NmL (defScope s_law_part) "rest" := .of (by kernel_rfl)

theorem ok_law_part (T : Txt K mg) (hq : Quiet CX) {f : Addr} {fd : FuncData} (D : Df K mg "_law_part" s_law_part ["one", "other"] f fd) : FnOk P w K mg base CX 1 f fd ["one", "other"] (sp_law_part T) := by
  refine D.F.okC sc_law_part (fun vs H Q E h => ?_) (fun cdv A outer s H vs Q E hr h => ?_)
  · obtain ⟨i, j, rfl, _⟩ := h
    rfl
  · obtain ⟨i, j, rfl, i0, j0, k⟩ := h
    refine ⟨_, (pss_cons (ps_while PassesOwn.never (pt_cmpR op_gt (pvl 1 n_law_part__other) pe_int (nomark _)) (pss_cons (ps_set (i := 2) sc_law_part.nd rfl (Or.inl n_law_part__rest.l) (pe_op op_mod (pvl 0 n_law_part__one) (pvl 1 n_law_part__other))) (pss_cons (ps_set (i := 0) sc_law_part.nd rfl (Or.inl n_law_part__one.l) (pvl 1 n_law_part__other)) (pss_one (ps_set (i := 1) sc_law_part.nd rfl (Or.inl n_law_part__other.l) (pvl 2 n_law_part__rest)))))) (pss_one (ps_ret (pvl 0 n_law_part__one)))), ?_⟩
    rw [show L2.start ["one", "other", "rest"] [V.int i, V.int j] = [some (V.int i), some (V.int j), none] from rfl]
    refine cutS fun N1 h1 => ?_
    refine while_H (fun n σ H' => H' = H ∧ ∃ (x y : Int) (v : Option V), n = y.toNat ∧ 0 ≤ x ∧ 0 ≤ y ∧ x.gcd y = i.gcd j ∧ σ = [some (V.int x), some (V.int y), v]) j.toNat ⟨rfl, i, j, _, rfl, i0, j0, rfl, rfl⟩ ?_
    rintro n σ H' N BB hBB hN hN2 ⟨rfl, x, y, v, rfl, x0, y0, e, rfl⟩
    refine hBB _ _ _ ?_
    walk_at "rd"
    by_cases c : 0 < y
    · rw [if_pos c]
      have h2 := Int.emod_lt_of_pos x c
      have h3 := Int.emod_nonneg x (Int.ne_of_gt c)
      refine ⟨N, fun σ' H2 w => ?_, c, hN (x % y).toNat _ _ (by omega) ⟨rfl, y, x % y, _, rfl, y0, h3, by rw [gcd_em]; exact e, rfl⟩⟩
      obtain ⟨m', lt, e1, x', y', v', e2, e3, e4, e5, e6⟩ := hN2 _ _ w
      exact ⟨m', lt, e1, x', y', e2, e3, e4, e5, v', e6⟩
    · have : y = 0 := by omega
      subst this
      rw [if_neg c]
      refine h1 _ _ ?_
      walk_at "rd"
      rw [Int.gcd_zero_right] at e
      rw [show x = (i.gcd j : Int) by omega]
      exact k
/-! #### _law_fraction -/
def sp_law_fraction (T : Txt K mg) : Sp := fun vs H Q _ => ∃ (i j : Int), vs = [.int i, .int j] ∧ 0 < j ∧ j.natAbs < 2 ^ 4000 ∧ ∀ (p q : Int) (r : Addr), Frc i j p q → H r = none → Q (.ref r) (upd H r (.tup [.int p, .int q]))
abbrev s_law_fraction : Stmt := top 13
theorem sc_law_fraction : FnScope ["top", "bottom", "part"] ["top", "bottom"] (defScope s_law_fraction) := FnScope.of (by kernel_rfl)
theorem n_law_fraction__top : NmL (defScope s_law_fraction) "top" := .of (by kernel_rfl)
theorem n_law_fraction__bottom : NmL (defScope s_law_fraction) "bottom" := .of (by kernel_rfl)
theorem n_law_fraction__part : NmL (defScope s_law_fraction) "part" := .of (by kernel_rfl)
theorem n_law_fraction__law_part : NmG (defScope s_law_fraction) "_law_part" := .of (by kernel_rfl)
theorem n_law_fraction__abs : NmG (defScope s_law_fraction) "abs" := .of (by kernel_rfl)

theorem ok_law_fraction (T : Txt K mg) (hq : Quiet CX) {f : Addr} {fd : FuncData} (D : Df K mg "_law_fraction" s_law_fraction ["top", "bottom"] f fd) {f_law_part : Addr} {fd_law_part : FuncData} (D_law_part : Df K mg "_law_part" s_law_part ["one", "other"] f_law_part fd_law_part) (G_law_part : FnOk P w K mg base CX 1 f_law_part fd_law_part ["one", "other"] (sp_law_part T)) : FnOk P w K mg base CX 2 f fd ["top", "bottom"] (sp_law_fraction T) := by
  refine D.F.okC sc_law_fraction (fun vs H Q E h => ?_) (fun cdv A outer s H vs Q E hr h => ?_)
  · obtain ⟨i, j, rfl, _⟩ := h
    rfl
  · obtain ⟨i, j, rfl, j0, jb, k⟩ := h
    refine ⟨_, (pss_cons (ps_set (i := 2) sc_law_fraction.nd rfl (Or.inl n_law_fraction__part.l) (pe_call G_law_part (hr.mono (by decide)) n_law_fraction__law_part.g D_law_part.m D_law_part.F.kp D_law_part.b .nil (passQ hq) (pa_cons (pe_callB call_abs n_law_fraction__abs.g T.abs pb_abs (pa_cons (pvl 0 n_law_fraction__top) pa_nil) (hn := n_law_fraction__abs.n) (hdb := n_law_fraction__abs.d)) (pa_cons (pvl 1 n_law_fraction__bottom) pa_nil)) (hdb := n_law_fraction__law_part.d))) (pss_one (ps_ret (pe_tup (pa_cons (pe_op op_fdivL (pvl 0 n_law_fraction__top) (pvl 2 n_law_fraction__part)) (pa_cons (pe_op op_fdivL (pvl 1 n_law_fraction__bottom) (pvl 2 n_law_fraction__part)) pa_nil)))))), ?_⟩
    rw [show L2.start ["top", "bottom", "part"] [V.int i, V.int j] = [some (V.int i), some (V.int j), none] from rfl]
    have jn : j ≠ 0 := by omega
    have gp := Int.gcd_pos_of_ne_zero_right i jn
    have gl := Int.gcd_le_natAbs_right i jn
    have fr := frc_of (t := i) (b := j) (c := (i.gcd j : Int)) jn (Int.natAbs_natCast _) ⟨fun _ => j0, fun _ => by omega⟩
    rw [Int.fdiv_eq_ediv_of_nonneg _ (by omega), Int.fdiv_eq_ediv_of_nonneg _ (by omega)] at fr
    refine cutS fun N1 h1 => ?_
    walk_at "rd"
    rw [abs_eq]
    refine ⟨_, j, rfl, Int.natCast_nonneg _, by omega, h1 _ _ ?_⟩
    rw [gcd_abs]
    walk_at "rd"
    have cd : ∀ x : Int, CDivL x (i.gcd j : Int) := fun x => ⟨by omega, log_bits (n := 4000) (by omega) (by rw [Int.natAbs_natCast]; omega) (by decide)⟩
    exact ⟨cd _, cd _, smallE (by simp), fun p np => k _ _ p fr np⟩
/-! #### _law_take -/
def sp_law_take (T : Txt K mg) : Sp := fun vs H Q _ => ∃ (p : Addr) (m n : Int), vs = [.ref p, .int n] ∧ H p = some (.lst [.int m]) ∧ 0 < n ∧ n.natAbs < 2 ^ 4000 ∧ Q (.int (m % n)) (upd H p (.lst [.int (m / n)]))
abbrev s_law_take : Stmt := top 10
theorem sc_law_take : FnScope ["pot", "n", "found"] ["pot", "n"] (defScope s_law_take) := FnScope.of (by kernel_rfl)
theorem n_law_take__pot : NmL (defScope s_law_take) "pot" := .of (by kernel_rfl)
theorem n_law_take__n : NmL (defScope s_law_take) "n" := .of (by kernel_rfl)
theorem n_law_take__found : NmL (defScope s_law_take) "found" := .of (by kernel_rfl)

theorem ok_law_take (T : Txt K mg) (hq : Quiet CX) {f : Addr} {fd : FuncData} (D : Df K mg "_law_take" s_law_take ["pot", "n"] f fd) : FnOk P w K mg base CX 1 f fd ["pot", "n"] (sp_law_take T) := by
  refine D.F.okC sc_law_take (fun vs H Q E h => ?_) (fun cdv A outer s H vs Q E hr h => ?_)
  · obtain ⟨p, m, n, rfl, _⟩ := h
    rfl
  · obtain ⟨p, m, n, rfl, hp, h0, h1, k⟩ := h
    refine ⟨_, (pss_cons (ps_set (i := 2) sc_law_take.nd rfl (Or.inl n_law_take__found.l) (pe_op op_mod (pe_ix ix_list (pvl 0 n_law_take__pot) pe_int (fun _ _ => rfl)) (pvl 1 n_law_take__n))) (pss_cons (ps_asg (pe_op op_fdivL (pe_ix ix_list (pvl 0 n_law_take__pot) pe_int (fun _ _ => rfl)) (pvl 1 n_law_take__n)) (pg_sub (pvl 0 n_law_take__pot) pe_int set_list)) (pss_one (ps_ret (pvl 2 n_law_take__found))))), ?_⟩
    rw [show L2.start ["pot", "n", "found"] [V.ref p, V.int n] = [some (V.ref p), some (V.int n), none] from rfl]
    walk_at "rd"
    refine ixL hp rfl ⟨m, rfl, h0, ?_⟩
    refine ixL hp rfl ⟨m, rfl, ⟨h0, log_bits (by omega) h1 (by decide)⟩, ?_⟩
    exact ⟨p, _, 0, 0, rfl, rfl, hp, rfl, k⟩
/-! #### _law_drawn -/
def sp_law_drawn (T : Txt K mg) : Sp := fun vs H Q _ => ∃ (p : Addr) (m : Int), vs = [.ref p, .bl true] ∧ H p = some (.lst [.int m]) ∧ ∀ (f : Int × Int) (r : Addr) (m' : Int) (H' : Hp), FrB 90 f → f.1.gcd f.2 = 1 → H r = none → H' r = some (.tup [.int f.1, .int f.2]) → H' p = some (.lst [.int m']) → (∀ b o, H b = some o → b ≠ p → H' b = some o) → Q (.ref r) H'
abbrev s_law_drawn : Stmt := top 15
theorem sc_law_drawn : FnScope ["pot", "great", "far", "top"] ["pot", "great"] (defScope s_law_drawn) := FnScope.of (by kernel_rfl)
theorem n_law_drawn__pot : NmL (defScope s_law_drawn) "pot" := .of (by kernel_rfl)
theorem n_law_drawn__great : NmL (defScope s_law_drawn) "great" := .of (by kernel_rfl)
theorem n_law_drawn__far : NmL (defScope s_law_drawn) "far" := .of (by kernel_rfl)
theorem n_law_drawn__top : NmL (defScope s_law_drawn) "top" := .of (by kernel_rfl)
theorem n_law_drawn__int : NmG (defScope s_law_drawn) "int" := .of (by kernel_rfl)
theorem n_law_drawn__law_take : NmG (defScope s_law_drawn) "_law_take" := .of (by kernel_rfl)
theorem n_law_drawn__law_fraction : NmG (defScope s_law_drawn) "_law_fraction" := .of (by kernel_rfl)

theorem ok_law_drawn (T : Txt K mg) (hq : Quiet CX) {f : Addr} {fd : FuncData} (D : Df K mg "_law_drawn" s_law_drawn ["pot", "great"] f fd) {f_law_fraction : Addr} {fd_law_fraction : FuncData} (D_law_fraction : Df K mg "_law_fraction" s_law_fraction ["top", "bottom"] f_law_fraction fd_law_fraction) (G_law_fraction : FnOk P w K mg base CX 2 f_law_fraction fd_law_fraction ["top", "bottom"] (sp_law_fraction T)) {f_law_take : Addr} {fd_law_take : FuncData} (D_law_take : Df K mg "_law_take" s_law_take ["pot", "n"] f_law_take fd_law_take) (G_law_take : FnOk P w K mg base CX 1 f_law_take fd_law_take ["pot", "n"] (sp_law_take T)) : FnOk P w K mg base CX 3 f fd ["pot", "great"] (sp_law_drawn T) := by
  refine D.F.okC sc_law_drawn (fun vs H Q E h => ?_) (fun cdv A outer s H vs Q E hr h => ?_)
  · obtain ⟨p, m, rfl, _⟩ := h
    rfl
  · obtain ⟨p, m, rfl, hp, k⟩ := h
    refine ⟨_, (pss_cons (ps_set (i := 2) sc_law_drawn.nd rfl (Or.inl n_law_drawn__far.l) (pe_ix ix_list (pe_lst (pa_cons pe_int (pa_cons pe_int (pa_cons (pe_ix ix_list (pe_lst (pa_cons pe_int (pa_cons (pe_op op_pow pe_int pe_int) pa_nil))) (pe_callTy call_int1 n_law_drawn__int.g T.int pb_int (pa_cons (pvl 1 n_law_drawn__great) pa_nil) (hn := n_law_drawn__int.n) (hdb := n_law_drawn__int.d)) (fun _ _ => rfl)) pa_nil)))) (pe_call G_law_take (hr.mono (by decide)) n_law_drawn__law_take.g D_law_take.m D_law_take.F.kp D_law_take.b .nil (passQ hq) (pa_cons (pvl 0 n_law_drawn__pot) (pa_cons pe_int pa_nil)) (hdb := n_law_drawn__law_take.d)) (fun _ _ => rfl))) (pss_cons (ps_set (i := 3) sc_law_drawn.nd rfl (Or.inl n_law_drawn__top.l) (pe_op op_sub (pe_call G_law_take (hr.mono (by decide)) n_law_drawn__law_take.g D_law_take.m D_law_take.F.kp D_law_take.b .nil (passQ hq) (pa_cons (pvl 0 n_law_drawn__pot) (pa_cons (pe_op op_add (pe_op op_mul pe_int (pvl 2 n_law_drawn__far)) pe_int) pa_nil)) (hdb := n_law_drawn__law_take.d)) (pvl 2 n_law_drawn__far))) (pss_one (ps_ret (pe_call G_law_fraction (hr.mono (by decide)) n_law_drawn__law_fraction.g D_law_fraction.m D_law_fraction.F.kp D_law_fraction.b .nil (passQ hq) (pa_cons (pvl 3 n_law_drawn__top) (pa_cons (pe_op op_add pe_int (pe_call G_law_take (hr.mono (by decide)) n_law_drawn__law_take.g D_law_take.m D_law_take.F.kp D_law_take.b .nil (passQ hq) (pa_cons (pvl 0 n_law_drawn__pot) (pa_cons (pvl 2 n_law_drawn__far) pa_nil)) (hdb := n_law_drawn__law_take.d))) pa_nil)) (hdb := n_law_drawn__law_fraction.d)))))), ?_⟩
    rw [show L2.start ["pot", "great", "far", "top"] [V.ref p, V.bl true] = [some (V.ref p), some (V.bl true), none, none] from rfl]
    refine cutS fun N1 h1 => ?_
    walk_at "rd"
    refine ⟨⟨by decide, by decide, by decide⟩, smallE (by simp), fun l1 n1 => .inr (ixL upd_same rfl ⟨smallE (by simp), fun l2 n2 => ?_⟩)⟩
    have t1 := Same.new (.lst [V.int 12, V.int (10 ^ Int.toNat 25)]) n1
    have hp1 := t1 _ _ hp
    have t2 := t1.trans (Same.new (.lst [V.int 9, V.int 40, V.int (10 ^ Int.toNat 25)]) n2)
    have hp2 := t2 _ _ hp
    have el : upd (upd H l1 (.lst [V.int 12, V.int (10 ^ Int.toNat 25)])) l2 (.lst [V.int 9, V.int 40, V.int (10 ^ Int.toNat 25)]) l2 = some (.lst [V.int 9, V.int 40, V.int (10 ^ Int.toNat 25)]) := upd_same
    generalize upd (upd H l1 (.lst [V.int 12, V.int (10 ^ Int.toNat 25)])) l2 (.lst [V.int 9, V.int 40, V.int (10 ^ Int.toNat 25)]) = H2 at t2 hp2 el ⊢
    refine ⟨p, m, 3, rfl, hp2, by decide, by decide, ?_⟩
    have ne : l2 ≠ p := ne_of el hp2 (by intro z; cases z)
    have kp : ∀ z b o, H b = some o → b ≠ p → upd H2 p z b = some o := fun z b o e nb => by rw [upd_ne nb]; exact t2 _ _ e
    obtain ⟨far, hf, f0, f1⟩ : ∃ far : Int, atI [V.int 9, V.int 40, V.int (10 ^ Int.toNat 25)] (m % 3) = some (.int far) ∧ 0 < far ∧ far ≤ 10 ^ 25 := by
      rcases (show m % 3 = 0 ∨ m % 3 = 1 ∨ m % 3 = 2 by omega) with z | z | z <;> rw [z]
      · exact ⟨_, rfl, by decide, by decide⟩
      · exact ⟨_, rfl, by decide, by decide⟩
      · exact ⟨_, rfl, by decide, by decide⟩
    refine ixL (by rw [upd_ne ne]; exact el) hf (h1 _ _ (cutS fun N2 h2 => ?_))
    have b1 : (2 * far + 1).natAbs < 2 ^ 4000 := up_bits (m := 90) (by omega) (by decide)
    have b2 : far.natAbs < 2 ^ 4000 := up_bits (m := 90) (by omega) (by decide)
    walk_at "rd"
    refine ⟨.inl ⟨by decide, by decide⟩, p, m / 3, 2 * far + 1, rfl, upd_same, by omega, b1, _, rfl, h2 _ _ ?_⟩
    rw [upd_upd]
    have q0 := Int.emod_nonneg (m / 3) (show 2 * far + 1 ≠ 0 by omega)
    have q1 := Int.emod_lt_of_pos (m / 3) (show 0 < 2 * far + 1 by omega)
    generalize m / 3 % (2 * far + 1) = tp at q0 q1 ⊢
    generalize m / 3 / (2 * far + 1) = m2
    walk_at "rd"
    refine ⟨p, m2, far, rfl, upd_same, f0, b2, ?_⟩
    rw [upd_upd]
    have w0 := Int.emod_nonneg m2 (show far ≠ 0 by omega)
    have w1 := Int.emod_lt_of_pos m2 f0
    generalize m2 % far = bt at w0 w1 ⊢
    generalize m2 / far = m3
    refine ⟨_, rfl, tp - far, 1 + bt, rfl, by omega, up_bits (m := 90) (by omega) (by decide), fun x y r fr nr => ?_⟩
    obtain ⟨pl, ql⟩ := frc_bd fr (by omega)
    have nrp : r ≠ p := fun z => by rw [z, upd_same] at nr; cases nr
    have nr2 : H2 r = none := by rw [upd_ne nrp] at nr; exact nr
    exact k (x, y) r m3 _ ⟨fr.pos, by show x.natAbs < 2 ^ 90; omega, by show y.natAbs < 2 ^ 90; omega⟩ fr.one (t2.free nr2) upd_same (by rw [upd_ne nrp.symm]; exact upd_same) fun b o e nb => by rw [upd_ne (ne_of_none (t2 _ _ e) nr2)]; exact kp _ b o e nb
/-! #### _law_stir -/
def sp_law_stir (T : Txt K mg) : Sp := fun vs H Q _ => ∃ c i : Int, vs = [.int c, .int i] ∧ 0 ≤ i ∧ i ≤ 1000000 ∧ ∀ v, 0 ≤ v → Q (.int v) H
abbrev s_law_stir : Stmt := top 9
theorem sc_law_stir : FnScope ["cell", "k", "big"] ["cell", "k"] (defScope s_law_stir) := FnScope.of (by kernel_rfl)
theorem n_law_stir__cell : NmL (defScope s_law_stir) "cell" := .of (by kernel_rfl)
theorem n_law_stir__k : NmL (defScope s_law_stir) "k" := .of (by kernel_rfl)
theorem n_law_stir__big : NmL (defScope s_law_stir) "big" := .of (by kernel_rfl)

theorem ok_law_stir (T : Txt K mg) (hq : Quiet CX) {f : Addr} {fd : FuncData} (D : Df K mg "_law_stir" s_law_stir ["cell", "k"] f fd) : FnOk P w K mg base CX 1 f fd ["cell", "k"] (sp_law_stir T) := by
  refine D.F.okC sc_law_stir (fun vs H Q E h => ?_) (fun cdv A outer s H vs Q E hr h => ?_)
  · obtain ⟨c, i, rfl, _⟩ := h
    rfl
  · obtain ⟨c, i, rfl, h0, h1, k⟩ := h
    refine ⟨_, (pss_cons (ps_set (i := 2) sc_law_stir.nd rfl (Or.inl n_law_stir__big.l) (pe_op op_mulB (pe_op op_add (pe_op op_mod (pvl 0 n_law_stir__cell) (pe_op op_pow pe_int pe_int)) pe_int) (pe_op op_add pe_int (pe_op op_mul (pe_op op_mul pe_int (pvl 1 n_law_stir__k)) (pvl 1 n_law_stir__k))))) (pss_cons (ps_set (i := 2) sc_law_stir.nd rfl (Or.inl n_law_stir__big.l) (pe_op op_add (pvl 2 n_law_stir__big) (pe_op op_mul pe_int (pvl 1 n_law_stir__k)))) (pss_one (ps_ret (pe_op op_mod (pe_op op_mulB (pvl 2 n_law_stir__big) (pvl 2 n_law_stir__big)) (pe_op op_add (pe_op op_pow pe_int pe_int) pe_int)))))), ?_⟩
    rw [show L2.start ["cell", "k", "big"] [V.int c, V.int i] = [some (V.int c), some (V.int i), none] from rfl]
    walk_at "rd"
    obtain ⟨e1, e2, e3⟩ := stir_bits c i h0 h1
    have pw : CPow 10 60 := ⟨by decide, by decide, by decide⟩
    have p33 : (0 : Int) < 10 ^ (60 : Int).toNat + 33 := Int.add_pos p60 (by decide)
    refine ⟨pw, p60, .inl ⟨by decide, by decide⟩, .inr ⟨by omega, by omega⟩, mul_ok (up_bits e1 (by decide)) (up_bits e2 (by decide)), .inl ⟨by decide, by decide⟩, mul_ok e3 e3, pw, p33, ?_⟩
    exact k _ (Int.emod_nonneg _ (Int.ne_of_gt p33))
/-! #### _law_whole -/
def sp_law_whole (T : Txt K mg) : Sp := fun vs H Q _ => ∃ i : Int, vs = [.int i] ∧ Q (.bl true) H
abbrev s_law_whole : Stmt := top 11
theorem sc_law_whole : FnScope ["found"] ["found"] (defScope s_law_whole) := FnScope.of (by kernel_rfl)
theorem n_law_whole__found : NmL (defScope s_law_whole) "found" := .of (by kernel_rfl)
theorem n_law_whole__isinstance : NmG (defScope s_law_whole) "isinstance" := .of (by kernel_rfl)
theorem n_law_whole__int : NmG (defScope s_law_whole) "int" := .of (by kernel_rfl)
theorem n_law_whole__bool : NmG (defScope s_law_whole) "bool" := .of (by kernel_rfl)

theorem ok_law_whole (T : Txt K mg) (hq : Quiet CX) {f : Addr} {fd : FuncData} (D : Df K mg "_law_whole" s_law_whole ["found"] f fd) : FnOk P w K mg base CX 1 f fd ["found"] (sp_law_whole T) := by
  refine D.F.okC sc_law_whole (fun vs H Q E h => ?_) (fun cdv A outer s H vs Q E hr h => ?_)
  · obtain ⟨i, rfl, _⟩ := h
    rfl
  · obtain ⟨i, rfl, k⟩ := h
    refine ⟨_, (pss_one (ps_ret (pe_and (pe_callB call_isinst n_law_whole__isinstance.g T.isinstance pb_isinstance (pa_cons (pvl 0 n_law_whole__found) (pa_cons (pe_bltn (v := .ty "int") n_law_whole__int.g T.int pb_int rfl (hn := n_law_whole__int.n) (hd := n_law_whole__int.d)) pa_nil)) (hn := n_law_whole__isinstance.n) (hdb := n_law_whole__isinstance.d)) (pe_one (pe_not (pe_callB call_isinst n_law_whole__isinstance.g T.isinstance pb_isinstance (pa_cons (pvl 0 n_law_whole__found) (pa_cons (pe_bltn (v := .ty "bool") n_law_whole__bool.g T.bool pb_bool rfl (hn := n_law_whole__bool.n) (hd := n_law_whole__bool.d)) pa_nil)) (hn := n_law_whole__isinstance.n) (hdb := n_law_whole__isinstance.d))))))), ?_⟩
    rw [show L2.start ["found"] [V.int i] = [some (V.int i)] from rfl]
    walk_at "rd"
    refine ⟨_, _, _, true, rfl, .int i, fun cv h => by cases h; rfl, _, rfl, ?_⟩
    rw [if_pos rfl]
    refine ⟨_, _, _, false, rfl, .int i, fun cv h => by cases h; rfl, _, rfl, ?_⟩
    exact k
/-! #### _law_is_fraction -/
def sp_law_is_fraction (T : Txt K mg) : Sp := fun vs H Q _ => ∃ (a : Addr) (p q : Int), vs = [.ref a] ∧ H a = some (.tup [.int p, .int q]) ∧ 0 < q ∧ p.gcd q = 1 ∧ Q (.bl true) H
abbrev s_law_is_fraction : Stmt := top 14
theorem sc_law_is_fraction : FnScope ["found"] ["found"] (defScope s_law_is_fraction) := FnScope.of (by kernel_rfl)
theorem n_law_is_fraction__found : NmL (defScope s_law_is_fraction) "found" := .of (by kernel_rfl)
theorem n_law_is_fraction__isinstance : NmG (defScope s_law_is_fraction) "isinstance" := .of (by kernel_rfl)
theorem n_law_is_fraction__tuple : NmG (defScope s_law_is_fraction) "tuple" := .of (by kernel_rfl)
theorem n_law_is_fraction__len : NmG (defScope s_law_is_fraction) "len" := .of (by kernel_rfl)
theorem n_law_is_fraction__law_whole : NmG (defScope s_law_is_fraction) "_law_whole" := .of (by kernel_rfl)
theorem n_law_is_fraction__law_part : NmG (defScope s_law_is_fraction) "_law_part" := .of (by kernel_rfl)
theorem n_law_is_fraction__abs : NmG (defScope s_law_is_fraction) "abs" := .of (by kernel_rfl)

theorem ok_law_is_fraction (T : Txt K mg) (hq : Quiet CX) {f : Addr} {fd : FuncData} (D : Df K mg "_law_is_fraction" s_law_is_fraction ["found"] f fd) {f_law_part : Addr} {fd_law_part : FuncData} (D_law_part : Df K mg "_law_part" s_law_part ["one", "other"] f_law_part fd_law_part) (G_law_part : FnOk P w K mg base CX 1 f_law_part fd_law_part ["one", "other"] (sp_law_part T)) {f_law_whole : Addr} {fd_law_whole : FuncData} (D_law_whole : Df K mg "_law_whole" s_law_whole ["found"] f_law_whole fd_law_whole) (G_law_whole : FnOk P w K mg base CX 1 f_law_whole fd_law_whole ["found"] (sp_law_whole T)) : FnOk P w K mg base CX 2 f fd ["found"] (sp_law_is_fraction T) := by
  refine D.F.okC sc_law_is_fraction (fun vs H Q E h => ?_) (fun cdv A outer s H vs Q E hr h => ?_)
  · obtain ⟨a, p, q, rfl, _⟩ := h
    rfl
  · obtain ⟨a, p, q, rfl, ha, q0, o, k⟩ := h
    refine ⟨_, (pss_cons (ps_if (PW.pt (pw_or (pt_not (pt_val (pe_callB call_isinst n_law_is_fraction__isinstance.g T.isinstance pb_isinstance (pa_cons (pvl 0 n_law_is_fraction__found) (pa_cons (pe_bltn (v := .ty "tuple") n_law_is_fraction__tuple.g T.tuple pb_tuple rfl (hn := n_law_is_fraction__tuple.n) (hd := n_law_is_fraction__tuple.d)) pa_nil)) (hn := n_law_is_fraction__isinstance.n) (hdb := n_law_is_fraction__isinstance.d)))) (pw_or (pt_cmpR op_ne (pe_callB call_len_seq n_law_is_fraction__len.g T.len pb_len (pa_cons (pvl 0 n_law_is_fraction__found) pa_nil) (hn := n_law_is_fraction__len.n) (hdb := n_law_is_fraction__len.d)) pe_int (nomark _)) (pw_or (pt_not (pt_val (pe_call G_law_whole (hr.mono (by decide)) n_law_is_fraction__law_whole.g D_law_whole.m D_law_whole.F.kp D_law_whole.b .nil (passQ hq) (pa_cons (pe_ix ix_tup (pvl 0 n_law_is_fraction__found) pe_int (fun _ _ => rfl)) pa_nil) (hdb := n_law_is_fraction__law_whole.d)))) (pw_or1 (pt_not (pt_val (pe_call G_law_whole (hr.mono (by decide)) n_law_is_fraction__law_whole.g D_law_whole.m D_law_whole.F.kp D_law_whole.b .nil (passQ hq) (pa_cons (pe_ix ix_tup (pvl 0 n_law_is_fraction__found) pe_int (fun _ _ => rfl)) pa_nil) (hdb := n_law_is_fraction__law_whole.d))))))))) (pss_one (ps_ret pe_bl)) pss_nil) (pss_one (ps_ret (pe_and (pe_cmpR op_gt (pe_ix ix_tup (pvl 0 n_law_is_fraction__found) pe_int (fun _ _ => rfl)) pe_int (nomark _)) (pe_one (pe_cmpR op_eq (pe_call G_law_part (hr.mono (by decide)) n_law_is_fraction__law_part.g D_law_part.m D_law_part.F.kp D_law_part.b .nil (passQ hq) (pa_cons (pe_callB call_abs n_law_is_fraction__abs.g T.abs pb_abs (pa_cons (pe_ix ix_tup (pvl 0 n_law_is_fraction__found) pe_int (fun _ _ => rfl)) pa_nil) (hn := n_law_is_fraction__abs.n) (hdb := n_law_is_fraction__abs.d)) (pa_cons (pe_ix ix_tup (pvl 0 n_law_is_fraction__found) pe_int (fun _ _ => rfl)) pa_nil)) (hdb := n_law_is_fraction__law_part.d)) pe_int (nomark _))))))), ?_⟩
    rw [show L2.start ["found"] [V.ref a] = [some (V.ref a)] from rfl]
    refine cutS fun N1 h1 => ?_
    walk_at "rd"
    refine ⟨_, _, _, true, rfl, .tup ha, fun cv h => by cases h; rfl, _, rfl, ?_⟩
    rw [if_neg (by decide)]
    refine ⟨_, .inr (SqT.of ha), ?_⟩
    rw [if_neg (fun z => z rfl)]
    refine ixTS (SqT.of ha) rfl ⟨p, rfl, _, rfl, ?_⟩
    rw [if_neg (by decide)]
    refine ixTS (SqT.of ha) rfl ⟨q, rfl, _, rfl, ?_⟩
    rw [if_neg (by decide)]
    refine h1 _ _ ?_
    walk_at "rd"
    refine ixTS (SqT.of ha) rfl ⟨q, rfl, ?_⟩
    rw [if_pos q0]
    refine ixTS (SqT.of ha) rfl ⟨p, rfl, ixTS (SqT.of ha) rfl ?_⟩
    rw [abs_eq]
    refine ⟨_, q, rfl, Int.natCast_nonneg _, Int.le_of_lt q0, rfl, ?_⟩
    rw [gcd_abs, o]
    exact k
/-! #### less -/
def sp_less (T : Txt K mg) : Sp := fun vs H Q _ => ∃ (a b : Addr) (f g : Int × Int) (n : Nat), vs = [.ref a, .ref b] ∧ H a = some (.tup [.int f.1, .int f.2]) ∧ H b = some (.tup [.int g.1, .int g.2]) ∧ FrB n f ∧ FrB n g ∧ n ≤ 1000 ∧ Q (.bl (decide (f.1 * g.2 < g.1 * f.2))) H
abbrev s_less : Stmt := top 6
theorem sc_less : FnScope ["one", "two"] ["one", "two"] (defScope s_less) := FnScope.of (by kernel_rfl)
theorem n_less__one : NmL (defScope s_less) "one" := .of (by kernel_rfl)
theorem n_less__two : NmL (defScope s_less) "two" := .of (by kernel_rfl)

theorem ok_less (T : Txt K mg) (hq : Quiet CX) {f : Addr} {fd : FuncData} (D : Df K mg "less" s_less ["one", "two"] f fd) : FnOk P w K mg base CX 1 f fd ["one", "two"] (sp_less T) := by
  refine D.F.okC sc_less (fun vs H Q E h => ?_) (fun cdv A outer s H vs Q E hr h => ?_)
  · obtain ⟨a, b, f, g, n, rfl, _⟩ := h
    rfl
  · obtain ⟨a, b, f, g, n, rfl, ha, hb, fb, gb, n1, k⟩ := h
    refine ⟨_, (pss_one (ps_ret (pe_cmpR op_lt (pe_op op_mulB (pe_ix ix_tup (pvl 0 n_less__one) pe_int (fun _ _ => rfl)) (pe_ix ix_tup (pvl 1 n_less__two) pe_int (fun _ _ => rfl))) (pe_op op_mulB (pe_ix ix_tup (pvl 1 n_less__two) pe_int (fun _ _ => rfl)) (pe_ix ix_tup (pvl 0 n_less__one) pe_int (fun _ _ => rfl))) (nomark _)))), ?_⟩
    rw [show L2.start ["one", "two"] [V.ref a, V.ref b] = [some (V.ref a), some (V.ref b)] from rfl]
    have ub : ∀ {x : Int}, x.natAbs < 2 ^ n → x.natAbs < 2 ^ 4000 := fun h => up_bits h (by omega)
    walk_at "rd"
    refine ixTS (SqT.of ha) rfl (ixTS (SqT.of hb) rfl ?_)
    exact ⟨_, rfl, _, rfl, mul_ok (ub fb.2.1) (ub gb.2.2), ixTS (SqT.of hb) rfl (ixTS (SqT.of ha) rfl ⟨_, rfl, _, rfl, mul_ok (ub gb.2.1) (ub fb.2.2), k⟩)⟩
/-! #### common_divisor -/
def sp_common_divisor (T : Txt K mg) : Sp := fun vs H Q _ => ∃ (i j : Int), vs = [.int i, .int j] ∧ Q (.int (i.gcd j : Int)) H
abbrev s_common_divisor : Stmt := top 2
theorem sc_common_divisor : FnScope ["one", "two", "rest"] ["one", "two"] (defScope s_common_divisor) := FnScope.of (by kernel_rfl)
theorem n_common_divisor__one : NmL (defScope s_common_divisor) "one" := .of (by kernel_rfl)
theorem n_common_divisor__two : NmL (defScope s_common_divisor) "two" := .of (by kernel_rfl)
theorem n_common_divisor__rest : NmL (defScope s_common_divisor) "rest" := .of (by kernel_rfl)
theorem n_common_divisor__abs : NmG (defScope s_common_divisor) "abs" := .of (by kernel_rfl)

theorem ok_common_divisor (T : Txt K mg) (hq : Quiet CX) {f : Addr} {fd : FuncData} (D : Df K mg "common_divisor" s_common_divisor ["one", "two"] f fd) : FnOk P w K mg base CX 1 f fd ["one", "two"] (sp_common_divisor T) := by
  refine D.F.okC sc_common_divisor (fun vs H Q E h => ?_) (fun cdv A outer s H vs Q E hr h => ?_)
  · obtain ⟨i, j, rfl, _⟩ := h
    rfl
  · obtain ⟨i, j, rfl, k⟩ := h
    refine ⟨_, (pss_cons (ps_while PassesOwn.never (pt_cmpR op_ne (pvl 1 n_common_divisor__two) pe_int (nomark _)) (pss_cons (ps_set (i := 2) sc_common_divisor.nd rfl (Or.inl n_common_divisor__rest.l) (pe_op op_modN (pvl 0 n_common_divisor__one) (pvl 1 n_common_divisor__two))) (pss_cons (ps_set (i := 0) sc_common_divisor.nd rfl (Or.inl n_common_divisor__one.l) (pvl 1 n_common_divisor__two)) (pss_one (ps_set (i := 1) sc_common_divisor.nd rfl (Or.inl n_common_divisor__two.l) (pvl 2 n_common_divisor__rest)))))) (pss_one (ps_ret (pe_callB call_abs n_common_divisor__abs.g T.abs pb_abs (pa_cons (pvl 0 n_common_divisor__one) pa_nil) (hn := n_common_divisor__abs.n) (hdb := n_common_divisor__abs.d))))), ?_⟩
    rw [show L2.start ["one", "two", "rest"] [V.int i, V.int j] = [some (V.int i), some (V.int j), none] from rfl]
    refine cutS fun N1 h1 => ?_
    refine while_H (fun n σ H' => H' = H ∧ ∃ (x y : Int) (v : Option V), n = y.natAbs ∧ x.gcd y = i.gcd j ∧ σ = [some (V.int x), some (V.int y), v]) j.natAbs ⟨rfl, i, j, _, rfl, rfl, rfl⟩ ?_
    rintro n σ H' N BB hBB hN hN2 ⟨rfl, x, y, v, rfl, e, rfl⟩
    refine hBB _ _ _ ?_
    walk_at "rd"
    by_cases c : y = 0
    · subst c
      rw [if_neg (fun z => z rfl)]
      refine h1 _ _ ?_
      walk_at "rd"
      rw [abs_eq, show (x.natAbs : Int) = (i.gcd j : Int) by rw [← e, Int.gcd_zero_right]]
      exact k
    · rw [if_pos c]
      refine ⟨N, fun σ' H2 w => ?_, c, hN (x.fmod y).natAbs _ _ (fmod_less c) ⟨rfl, y, x.fmod y, _, rfl, by rw [gcd_fm]; exact e, rfl⟩⟩
      obtain ⟨m', lt, e1, x', y', v', e2, e3, e4⟩ := hN2 _ _ w
      exact ⟨m', lt, e1, x', y', e2, e3, v', e4⟩
/-! #### fraction -/
def sp_fraction (T : Txt K mg) : Sp := fun vs H Q _ => ∃ (i j : Int), vs = [.int i, .int j] ∧ j ≠ 0 ∧ j.natAbs < 2 ^ 4000 ∧ ∀ (p q : Int) (r : Addr), Frc i j p q → H r = none → Q (.ref r) (upd H r (.tup [.int p, .int q]))
abbrev s_fraction : Stmt := top 1
theorem sc_fraction : FnScope ["top", "bottom", "common"] ["top", "bottom"] (defScope s_fraction) := FnScope.of (by kernel_rfl)
theorem n_fraction__top : NmL (defScope s_fraction) "top" := .of (by kernel_rfl)
theorem n_fraction__bottom : NmL (defScope s_fraction) "bottom" := .of (by kernel_rfl)
theorem n_fraction__common : NmL (defScope s_fraction) "common" := .of (by kernel_rfl)
theorem n_fraction__common_divisor : NmG (defScope s_fraction) "common_divisor" := .of (by kernel_rfl)

theorem ok_fraction (T : Txt K mg) (hq : Quiet CX) {f : Addr} {fd : FuncData} (D : Df K mg "fraction" s_fraction ["top", "bottom"] f fd) {f_common_divisor : Addr} {fd_common_divisor : FuncData} (D_common_divisor : Df K mg "common_divisor" s_common_divisor ["one", "two"] f_common_divisor fd_common_divisor) (G_common_divisor : FnOk P w K mg base CX 1 f_common_divisor fd_common_divisor ["one", "two"] (sp_common_divisor T)) : FnOk P w K mg base CX 2 f fd ["top", "bottom"] (sp_fraction T) := by
  refine D.F.okC sc_fraction (fun vs H Q E h => ?_) (fun cdv A outer s H vs Q E hr h => ?_)
  · obtain ⟨i, j, rfl, _⟩ := h
    rfl
  · obtain ⟨i, j, rfl, j0, jb, k⟩ := h
    refine ⟨_, (pss_cons (ps_set (i := 2) sc_fraction.nd rfl (Or.inl n_fraction__common.l) (pe_call G_common_divisor (hr.mono (by decide)) n_fraction__common_divisor.g D_common_divisor.m D_common_divisor.F.kp D_common_divisor.b .nil (passQ hq) (pa_cons (pvl 0 n_fraction__top) (pa_cons (pvl 1 n_fraction__bottom) pa_nil)) (hdb := n_fraction__common_divisor.d))) (pss_cons (ps_if (pt_cmpR op_lt (pvl 1 n_fraction__bottom) pe_int (nomark _)) (pss_one (ps_set (i := 2) sc_fraction.nd rfl (Or.inl n_fraction__common.l) (pe_un un_neg (pvl 2 n_fraction__common)))) pss_nil) (pss_one (ps_ret (pe_tup (pa_cons (pe_op op_fdivLN (pvl 0 n_fraction__top) (pvl 2 n_fraction__common)) (pa_cons (pe_op op_fdivLN (pvl 1 n_fraction__bottom) (pvl 2 n_fraction__common)) pa_nil))))))), ?_⟩
    rw [show L2.start ["top", "bottom", "common"] [V.int i, V.int j] = [some (V.int i), some (V.int j), none] from rfl]
    have gp := Int.gcd_pos_of_ne_zero_right i j0
    have gl := Int.gcd_le_natAbs_right i j0
    refine cutS fun N1 h1 => ?_
    walk_at "rd"
    refine ⟨i, j, rfl, h1 _ _ ?_⟩
    have go : ∀ c : Int, c.natAbs = i.gcd j → (0 < c ↔ 0 < j) → CDivLN i c ∧ CDivLN j c ∧ Frc i j (i.fdiv c) (j.fdiv c) := fun c h1 h2 => by
      have c0 : c ≠ 0 := by omega
      have lb : c.natAbs.log2 < 9000 := log_bits c0 (n := 4000) (by omega) (by decide)
      exact ⟨⟨c0, lb⟩, ⟨c0, lb⟩, frc_of j0 h1 h2⟩
    walk_at "rd"
    by_cases c : j < 0
    · rw [if_pos c]
      obtain ⟨h1, h2, h3⟩ := go (-(i.gcd j : Int)) (by omega) (by omega)
      exact ⟨h1, h2, smallE (by simp), fun p np => k _ _ p h3 np⟩
    · rw [if_neg c]
      obtain ⟨h1, h2, h3⟩ := go (i.gcd j : Int) (by omega) (by omega)
      exact ⟨h1, h2, smallE (by simp), fun p np => k _ _ p h3 np⟩
/-! #### sum_up -/
def sp_sum_up (T : Txt K mg) : Sp := fun vs H Q _ => ∃ (a : Addr) (c : Bool) (qs : List Addr) (fs : List (Int × Int)) (n : Nat), vs = [.ref a] ∧ AtX c H a (qs.map V.ref) ∧ FrsAt H qs fs ∧ (∀ f ∈ fs, FrB n f) ∧ fs.length * n ≤ 3000 ∧ n ≤ 1000 ∧ fs.length ≤ 1000 ∧
  ∀ (p q : Int) (r : Addr) (H' : Hp), Frc (mulL fs (0, 1)).1 (mulL fs (0, 1)).2 p q → H r = none → Same H H' → H' r = some (.tup [.int p, .int q]) → Q (.ref r) H'
abbrev s_sum_up : Stmt := top 7
theorem sc_sum_up : FnScope ["some", "bottom", "part"] ["some"] (defScope s_sum_up) := FnScope.of (by kernel_rfl)
theorem n_sum_up__some : NmL (defScope s_sum_up) "some" := .of (by kernel_rfl)
theorem n_sum_up__bottom : NmC (defScope s_sum_up) "bottom" := .of (by kernel_rfl)
theorem n_sum_up__part : NmL (defScope s_sum_up) "part" := .of (by kernel_rfl)
theorem n_sum_up__common_divisor : NmG (defScope s_sum_up) "common_divisor" := .of (by kernel_rfl)
theorem n_sum_up__fraction : NmG (defScope s_sum_up) "fraction" := .of (by kernel_rfl)
theorem n_sum_up__sum : NmG (defScope s_sum_up) "sum" := .of (by kernel_rfl)

theorem ok_sum_up (T : Txt K mg) (hq : Quiet CX) {f : Addr} {fd : FuncData} (D : Df K mg "sum_up" s_sum_up ["some"] f fd) {f_common_divisor : Addr} {fd_common_divisor : FuncData} (D_common_divisor : Df K mg "common_divisor" s_common_divisor ["one", "two"] f_common_divisor fd_common_divisor) (G_common_divisor : FnOk P w K mg base CX 1 f_common_divisor fd_common_divisor ["one", "two"] (sp_common_divisor T)) {f_fraction : Addr} {fd_fraction : FuncData} (D_fraction : Df K mg "fraction" s_fraction ["top", "bottom"] f_fraction fd_fraction) (G_fraction : FnOk P w K mg base CX 2 f_fraction fd_fraction ["top", "bottom"] (sp_fraction T)) : FnOk P w K mg base CX 3 f fd ["some"] (sp_sum_up T) := by
  refine D.F.okC sc_sum_up (fun vs H Q E h => ?_) (fun cdv A outer s H vs Q E hr h => ?_)
  · obtain ⟨a, c, qs, fs, n, rfl, _⟩ := h
    rfl
  · obtain ⟨a, c, qs, fs, n, rfl, ha, hf, fb, fl, n1, f1, k⟩ := h
    refine ⟨_, (pss_cons (ps_set (i := 1) sc_sum_up.nd rfl (Or.inr n_sum_up__bottom.l) pe_int) (pss_cons (ps_for PassesOwn.never rfl (pi_any c (pvl 0 n_sum_up__some)) (pg_name (i := 2) sc_sum_up.nd rfl (Or.inl n_sum_up__part.l)) (pss_one (ps_set (i := 1) sc_sum_up.nd rfl (Or.inr n_sum_up__bottom.l) (pe_op op_mulB (pvc 1 n_sum_up__bottom) (pe_op op_fdivL (pe_ix ix_tup (pvl 2 n_sum_up__part) pe_int (fun _ _ => rfl)) (pe_call G_common_divisor (hr.mono (by decide)) n_sum_up__common_divisor.g D_common_divisor.m D_common_divisor.F.kp D_common_divisor.b .nil (passQ hq) (pa_cons (pvc 1 n_sum_up__bottom) (pa_cons (pe_ix ix_tup (pvl 2 n_sum_up__part) pe_int (fun _ _ => rfl)) pa_nil)) (hdb := n_sum_up__common_divisor.d))))))) (pss_one (ps_ret (pe_call G_fraction (hr.mono (by decide)) n_sum_up__fraction.g D_fraction.m D_fraction.F.kp D_fraction.b .nil (passQ hq) (pa_cons (pe_callB (call_sum rfl) n_sum_up__sum.g T.sum pb_sum (pa_cons (pe_comp rfl (ct_clos (Nc := ["part", "bottom"]) 1 [1] (by decide +kernel) rfl (by decide +kernel) rfl (by show ∀ (y : Str × NameKind), y ∈ _ → y.2 = NameKind.free → (defScope s_sum_up).names.lookup y.1 = some NameKind.cell; decide +kernel) rfl (fun _ h => cell_has h) (fun i hi => match i, hi with | 0, _ => ⟨"bottom", 1, rfl, rfl, rfl, by decide +kernel⟩ | i + 1, hi => absurd hi (by show ¬ i + 1 < 1; omega))) (pi_any c (pvl 0 n_sum_up__some)) (fun _ _ _ _ => (pg_name (i := 0) (show (["part", "bottom"] : List Str).Nodup from by decide +kernel) rfl (Or.inl rfl))) (fun _ _ _ _ => pts_nil) (fun _ _ _ _ => (pe_op op_mulB (pe_ix (ix_tupK K rfl) (pv 0) pe_int (fun _ _ => rfl)) (pe_op op_fdivL (pv 1) (pe_ix (ix_tupK K rfl) (pv 0) pe_int (fun _ _ => rfl)))))) pa_nil) (hn := n_sum_up__sum.n) (hdb := n_sum_up__sum.d)) (pa_cons (pvc 1 n_sum_up__bottom) pa_nil)) (hdb := n_sum_up__fraction.d)))))), ?_⟩
    rw [show L2.start ["some", "bottom", "part"] [V.ref a] = [some (V.ref a), none, none] from rfl]
    have sq : ∀ {H2 : Hp}, Same H H2 → SqX K c H2 a (qs.map V.ref) := fun {H2} s2 => AtX.sq (K := K) (show AtX c H2 a (qs.map V.ref) from s2 _ _ ha)
    have ql : qs.length = fs.length := Paired.length hf
    refine cutS fun N1 h1 => ?_
    walk_at "rd"
    refine h1 _ _ (cutS fun N2 h2 => ?_)
    walk_at "rd"
    refine ⟨⟨_, sq (Same.refl _)⟩, ?_⟩
    refine for_anyN (K := K) (c := c) (xs := qs.map V.ref) (fun i σ H2 => H2 = H ∧ ∃ (B : Int) (v : Option V), 0 < B ∧ B.natAbs ≤ 2 ^ (i * n) ∧ (∀ f ∈ fs.take i, f.2 ∣ B) ∧ σ = [some (V.ref a), some (V.int B), v]) ⟨rfl, 1, _, by decide, by simp, fun f hf => by simp at hf, rfl⟩ (fun i σ H2 _ z => by rw [z.1]; exact sq (Same.refl _)) ?_ ?_
    · rintro i x σ H2 N hN hx ⟨rfl, B, v, B0, Bb, Bd, rfl⟩
      rw [List.getElem?_map] at hx
      obtain ⟨q, gq, rfl⟩ := Option.map_eq_some_iff.mp hx
      obtain ⟨f, gf, eq⟩ := pr_get hf gq
      have fm := List.mem_of_getElem? gf
      obtain ⟨f0, fb1, fb2⟩ := fb f fm
      have il := (List.getElem?_eq_some_iff.mp gf).1
      have gp := Int.gcd_pos_of_ne_zero_right B (show f.2 ≠ 0 by omega)
      have gl := Int.gcd_le_natAbs_right B (show f.2 ≠ 0 by omega)
      obtain ⟨l0, l1⟩ := lcm_step B0 f0
      have gd : (0 : Int) ≤ f.2 / (B.gcd f.2 : Int) := Int.ediv_nonneg (by omega) (by omega)
      have qle : f.2 / (B.gcd f.2 : Int) ≤ f.2 := Int.ediv_le_self _ (by omega)
      have qb : (f.2 / (B.gcd f.2 : Int)).natAbs ≤ 2 ^ n := by omega
      have ile : i * n ≤ fs.length * n := Nat.mul_le_mul_right _ (by omega)
      have Bb' : B.natAbs < 2 ^ 4000 := Nat.lt_of_le_of_lt Bb (Nat.pow_lt_pow_right (by decide) (by omega))
      walk_at "rd"
      refine ixTS (SqT.of eq) rfl (ixTS (SqT.of eq) rfl ⟨_, _, rfl, _, rfl, _, rfl, ⟨by omega, log_bits (n := n) (by omega) (by omega) (by omega)⟩, mul_ok Bb' (Nat.lt_of_le_of_lt qb (Nat.pow_lt_pow_right (by decide) (by omega))), hN _ _ ⟨rfl, _, _, l0, ?_, ?_, rfl⟩⟩)
      · rw [Int.natAbs_mul, Nat.succ_mul, Nat.pow_add]
        exact Nat.mul_le_mul Bb qb
      · intro g hg
        rw [List.take_succ, gf] at hg
        rcases List.mem_append.mp hg with hg | hg
        · exact Int.dvd_mul_of_dvd_left (Bd g hg)
        · rw [show g = f by simpa using hg]
          exact l1
    · rintro σ H2 ⟨rfl, B, v, B0, Bb, Bd, rfl⟩
      refine h2 _ _ ?_
      rw [List.length_map, ql] at Bb Bd
      rw [List.take_length] at Bd
      have Bb' : B.natAbs < 2 ^ 4000 := Nat.lt_of_le_of_lt Bb (Nat.pow_lt_pow_right (by decide) (by omega))
      walk_at "rd"
      refine ⟨⟨_, sq (Same.refl _)⟩, fun p np => ?_⟩
      refine comp_any (K := K) (c := c) (xs := qs.map V.ref) (fun i ys σ H3 => Same H2 H3 ∧ H3 p = some (.lst ys) ∧ ys = ((fs.take i).map fun f => f.1 * (B / f.2)).map V.int ∧ ∃ v, σ = [v, some (V.int B)]) ⟨Same.new _ np, upd_same, rfl, _, rfl⟩ (fun i ys σ H3 _ z => sq z.1) ?_ ?_
      · rintro i x ys σ H3 N hN hx ⟨s3, e3, rfl, v, rfl⟩
        rw [List.getElem?_map] at hx
        obtain ⟨q, gq, rfl⟩ := Option.map_eq_some_iff.mp hx
        obtain ⟨f, gf, eq⟩ := pr_get hf gq
        have fm := List.mem_of_getElem? gf
        obtain ⟨f0, fb1, fb2⟩ := fb f fm
        have il := (List.getElem?_eq_some_iff.mp gf).1
        have qle : B / f.2 ≤ B := Int.ediv_le_self _ (by omega)
        have qnn : 0 ≤ B / f.2 := Int.ediv_nonneg (by omega) (by omega)
        have eq3 := s3 _ _ eq
        have Bq : (B / f.2).natAbs < 2 ^ 4000 := Nat.lt_of_le_of_lt (show (B / f.2).natAbs ≤ B.natAbs by omega) Bb'
        walk_at "rd"
        refine ixTS (SqT.of eq3) rfl (ixTS (SqT.of eq3) rfl ⟨_, rfl, ⟨f0, log_bits (n := n) (by omega) fb2 (by omega)⟩, _, rfl, mul_ok (up_bits fb1 (by omega)) Bq, e3, small (by rw [List.length_map, List.length_map, List.length_take]; omega), hN _ _ _ ⟨s3.put np _, upd_same, ?_, _, rfl⟩⟩)
        rw [List.take_succ, gf, List.map_append, List.map_append]
        rfl
      · rintro ys σ H3 ⟨s3, e3, rfl, v, rfl⟩
        rw [List.length_map, ql, List.take_length] at e3
        refine ⟨p, rfl, _, .inl (SqL.of e3), _, _, rfl, by omega, Bb', fun x y r fr nr => k x y r _ ?_ (s3.free nr) (s3.trans (Same.new _ nr)) upd_same⟩
        have ms := mulL_sum (B := B) (fs := fs) (S := 0) (tb := (0, 1)) Bd (by rw [Int.zero_mul, Int.zero_mul])
        rw [Int.zero_add] at ms
        exact frc_tr fr ms (by omega)
/-! #### plus -/
def sp_plus (T : Txt K mg) : Sp := fun vs H Q _ => ∃ (a b : Addr) (f g : Int × Int) (n : Nat), vs = [.ref a, .ref b] ∧ H a = some (.tup [.int f.1, .int f.2]) ∧ H b = some (.tup [.int g.1, .int g.2]) ∧ FrB n f ∧ FrB n g ∧ n ≤ 1000 ∧
  ∀ (p q : Int) (r : Addr) (H' : Hp), Frc (f.1 * g.2 + g.1 * f.2) (f.2 * g.2) p q → H r = none → Same H H' → H' r = some (.tup [.int p, .int q]) → Q (.ref r) H'
abbrev s_plus : Stmt := top 3
theorem sc_plus : FnScope ["one", "two"] ["one", "two"] (defScope s_plus) := FnScope.of (by kernel_rfl)
theorem n_plus__one : NmL (defScope s_plus) "one" := .of (by kernel_rfl)
theorem n_plus__two : NmL (defScope s_plus) "two" := .of (by kernel_rfl)
theorem n_plus__sum_up : NmG (defScope s_plus) "sum_up" := .of (by kernel_rfl)

theorem ok_plus (T : Txt K mg) (hq : Quiet CX) {f : Addr} {fd : FuncData} (D : Df K mg "plus" s_plus ["one", "two"] f fd) {f_sum_up : Addr} {fd_sum_up : FuncData} (D_sum_up : Df K mg "sum_up" s_sum_up ["some"] f_sum_up fd_sum_up) (G_sum_up : FnOk P w K mg base CX 3 f_sum_up fd_sum_up ["some"] (sp_sum_up T)) : FnOk P w K mg base CX 4 f fd ["one", "two"] (sp_plus T) := by
  refine D.F.okC sc_plus (fun vs H Q E h => ?_) (fun cdv A outer s H vs Q E hr h => ?_)
  · obtain ⟨a, b, f, g, n, rfl, _⟩ := h
    rfl
  · obtain ⟨a, b, f, g, n, rfl, ha, hb, fb, gb, n1, k⟩ := h
    refine ⟨_, (pss_one (ps_ret (pe_call G_sum_up (hr.mono (by decide)) n_plus__sum_up.g D_sum_up.m D_sum_up.F.kp D_sum_up.b .nil (passQ hq) (pa_cons (pe_lst (pa_cons (pvl 0 n_plus__one) (pa_cons (pvl 1 n_plus__two) pa_nil))) pa_nil) (hdb := n_plus__sum_up.d)))), ?_⟩
    rw [show L2.start ["one", "two"] [V.ref a, V.ref b] = [some (V.ref a), some (V.ref b)] from rfl]
    walk_at "rd"
    refine ⟨smallE (by simp), fun l nl => ?_⟩
    have s1 := Same.new (.lst [V.ref a, V.ref b]) nl
    refine ⟨l, true, [a, b], [f, g], n, rfl, upd_same, .cons (s1 _ _ ha) (.cons (s1 _ _ hb) .nil), fun x hx => ?_, by simp; omega, n1, by simp, fun p q r H' fr nr s' e => k p q r H' ?_ (s1.free nr) (s1.trans s') e⟩
    · simp only [List.mem_cons, List.mem_nil_iff, or_false] at hx
      rcases hx with rfl | rfl
      · exact fb
      · exact gb
    · have e1 : (mulL [f, g] (0, 1)).1 = f.1 * g.2 + g.1 * f.2 := by
        show (0 * f.2 + f.1 * 1) * g.2 + g.1 * (1 * f.2) = _
        rw [Int.zero_mul, Int.zero_add, Int.mul_one, Int.one_mul]
      have e2 : (mulL [f, g] (0, 1)).2 = f.2 * g.2 := by
        show 1 * f.2 * g.2 = _
        rw [Int.one_mul]
      rw [e1, e2] at fr
      exact fr
/-! #### minus -/
def sp_minus (T : Txt K mg) : Sp := fun vs H Q _ => ∃ (a b : Addr) (f g : Int × Int) (n : Nat), vs = [.ref a, .ref b] ∧ H a = some (.tup [.int f.1, .int f.2]) ∧ H b = some (.tup [.int g.1, .int g.2]) ∧ FrB n f ∧ FrB n g ∧ n ≤ 1000 ∧
  ∀ (p q : Int) (r : Addr) (H' : Hp), Frc (f.1 * g.2 - g.1 * f.2) (f.2 * g.2) p q → H r = none → Same H H' → H' r = some (.tup [.int p, .int q]) → Q (.ref r) H'
abbrev s_minus : Stmt := top 4
theorem sc_minus : FnScope ["one", "two"] ["one", "two"] (defScope s_minus) := FnScope.of (by kernel_rfl)
theorem n_minus__one : NmL (defScope s_minus) "one" := .of (by kernel_rfl)
theorem n_minus__two : NmL (defScope s_minus) "two" := .of (by kernel_rfl)
theorem n_minus__plus : NmG (defScope s_minus) "plus" := .of (by kernel_rfl)

theorem ok_minus (T : Txt K mg) (hq : Quiet CX) {f : Addr} {fd : FuncData} (D : Df K mg "minus" s_minus ["one", "two"] f fd) {f_plus : Addr} {fd_plus : FuncData} (D_plus : Df K mg "plus" s_plus ["one", "two"] f_plus fd_plus) (G_plus : FnOk P w K mg base CX 4 f_plus fd_plus ["one", "two"] (sp_plus T)) : FnOk P w K mg base CX 5 f fd ["one", "two"] (sp_minus T) := by
  refine D.F.okC sc_minus (fun vs H Q E h => ?_) (fun cdv A outer s H vs Q E hr h => ?_)
  · obtain ⟨a, b, f, g, n, rfl, _⟩ := h
    rfl
  · obtain ⟨a, b, f, g, n, rfl, ha, hb, fb, gb, n1, k⟩ := h
    refine ⟨_, (pss_one (ps_ret (pe_call G_plus (hr.mono (by decide)) n_minus__plus.g D_plus.m D_plus.F.kp D_plus.b .nil (passQ hq) (pa_cons (pvl 0 n_minus__one) (pa_cons (pe_tup (pa_cons (pe_un un_neg (pe_ix ix_tup (pvl 1 n_minus__two) pe_int (fun _ _ => rfl))) (pa_cons (pe_ix ix_tup (pvl 1 n_minus__two) pe_int (fun _ _ => rfl)) pa_nil))) pa_nil)) (hdb := n_minus__plus.d)))), ?_⟩
    rw [show L2.start ["one", "two"] [V.ref a, V.ref b] = [some (V.ref a), some (V.ref b)] from rfl]
    walk_at "rd"
    refine ixTS (SqT.of hb) rfl ?_
    refine ⟨_, rfl, ixTS (SqT.of hb) rfl ⟨smallE (by simp), fun l nl => ?_⟩⟩
    have s1 := Same.new (.tup [V.int (-g.1), V.int g.2]) nl
    refine ⟨a, l, f, (-g.1, g.2), n, rfl, s1 _ _ ha, upd_same, fb, ⟨gb.1, by show (-g.1).natAbs < _; rw [Int.natAbs_neg]; exact gb.2.1, gb.2.2⟩, n1, fun p q r H' fr nr s' e => k p q r H' ?_ (s1.free nr) (s1.trans s') e⟩
    rw [show f.1 * g.2 - g.1 * f.2 = f.1 * g.2 + -g.1 * f.2 by rw [Int.neg_mul]; omega]
    exact fr
/-! #### times -/
def sp_times (T : Txt K mg) : Sp := fun vs H Q _ => ∃ (a b : Addr) (f g : Int × Int) (n : Nat), vs = [.ref a, .ref b] ∧ H a = some (.tup [.int f.1, .int f.2]) ∧ H b = some (.tup [.int g.1, .int g.2]) ∧ FrB n f ∧ FrB n g ∧ n ≤ 1000 ∧
  ∀ (p q : Int) (r : Addr) (H' : Hp), Frc (f.1 * g.1) (f.2 * g.2) p q → H r = none → Same H H' → H' r = some (.tup [.int p, .int q]) → Q (.ref r) H'
abbrev s_times : Stmt := top 5
theorem sc_times : FnScope ["one", "two"] ["one", "two"] (defScope s_times) := FnScope.of (by kernel_rfl)
theorem n_times__one : NmL (defScope s_times) "one" := .of (by kernel_rfl)
theorem n_times__two : NmL (defScope s_times) "two" := .of (by kernel_rfl)
theorem n_times__fraction : NmG (defScope s_times) "fraction" := .of (by kernel_rfl)

theorem ok_times (T : Txt K mg) (hq : Quiet CX) {f : Addr} {fd : FuncData} (D : Df K mg "times" s_times ["one", "two"] f fd) {f_fraction : Addr} {fd_fraction : FuncData} (D_fraction : Df K mg "fraction" s_fraction ["top", "bottom"] f_fraction fd_fraction) (G_fraction : FnOk P w K mg base CX 2 f_fraction fd_fraction ["top", "bottom"] (sp_fraction T)) : FnOk P w K mg base CX 3 f fd ["one", "two"] (sp_times T) := by
  refine D.F.okC sc_times (fun vs H Q E h => ?_) (fun cdv A outer s H vs Q E hr h => ?_)
  · obtain ⟨a, b, f, g, n, rfl, _⟩ := h
    rfl
  · obtain ⟨a, b, f, g, n, rfl, ha, hb, fb, gb, n1, k⟩ := h
    refine ⟨_, (pss_one (ps_ret (pe_call G_fraction (hr.mono (by decide)) n_times__fraction.g D_fraction.m D_fraction.F.kp D_fraction.b .nil (passQ hq) (pa_cons (pe_op op_mulB (pe_ix ix_tup (pvl 0 n_times__one) pe_int (fun _ _ => rfl)) (pe_ix ix_tup (pvl 1 n_times__two) pe_int (fun _ _ => rfl))) (pa_cons (pe_op op_mulB (pe_ix ix_tup (pvl 0 n_times__one) pe_int (fun _ _ => rfl)) (pe_ix ix_tup (pvl 1 n_times__two) pe_int (fun _ _ => rfl))) pa_nil)) (hdb := n_times__fraction.d)))), ?_⟩
    rw [show L2.start ["one", "two"] [V.ref a, V.ref b] = [some (V.ref a), some (V.ref b)] from rfl]
    have ub : ∀ {x : Int}, x.natAbs < 2 ^ n → x.natAbs < 2 ^ 4000 := fun h => up_bits h (by omega)
    walk_at "rd"
    refine ixTS (SqT.of ha) rfl (ixTS (SqT.of hb) rfl ?_)
    refine ⟨_, rfl, _, rfl, mul_ok (ub fb.2.1) (ub gb.2.1), ixTS (SqT.of ha) rfl (ixTS (SqT.of hb) rfl ⟨_, rfl, _, rfl, mul_ok (ub fb.2.2) (ub gb.2.2), _, _, rfl, Int.mul_ne_zero (by have := fb.1; omega) (by have := gb.1; omega), up_bits (mul_bits fb.2.2 gb.2.2) (by omega), fun p q r fr nr => k p q r _ fr nr (Same.new _ nr) upd_same⟩)⟩
/-! #### _law_two_good -/
def sp_law_two_good (T : Txt K mg) : Sp := fun vs H Q _ => ∃ (a b : Addr) (f g : Int × Int), vs = [.ref a, .ref b] ∧ H a = some (.tup [.int f.1, .int f.2]) ∧ H b = some (.tup [.int g.1, .int g.2]) ∧ FrB 90 f ∧ FrB 90 g ∧ ∀ H', Same H H' → Q (.bl true) H'
abbrev s_law_two_good : Stmt := top 16
theorem sc_law_two_good : FnScope ["one", "two", "bottom", "due", "found", "k", "told"] ["one", "two"] (defScope s_law_two_good) := FnScope.of (by kernel_rfl)
theorem n_law_two_good__one : NmL (defScope s_law_two_good) "one" := .of (by kernel_rfl)
theorem n_law_two_good__two : NmL (defScope s_law_two_good) "two" := .of (by kernel_rfl)
theorem n_law_two_good__bottom : NmL (defScope s_law_two_good) "bottom" := .of (by kernel_rfl)
theorem n_law_two_good__due : NmL (defScope s_law_two_good) "due" := .of (by kernel_rfl)
theorem n_law_two_good__found : NmL (defScope s_law_two_good) "found" := .of (by kernel_rfl)
theorem n_law_two_good__k : NmL (defScope s_law_two_good) "k" := .of (by kernel_rfl)
theorem n_law_two_good__told : NmL (defScope s_law_two_good) "told" := .of (by kernel_rfl)
theorem n_law_two_good__plus : NmG (defScope s_law_two_good) "plus" := .of (by kernel_rfl)
theorem n_law_two_good__minus : NmG (defScope s_law_two_good) "minus" := .of (by kernel_rfl)
theorem n_law_two_good__times : NmG (defScope s_law_two_good) "times" := .of (by kernel_rfl)
theorem n_law_two_good__range : NmG (defScope s_law_two_good) "range" := .of (by kernel_rfl)
theorem n_law_two_good__law_is_fraction : NmG (defScope s_law_two_good) "_law_is_fraction" := .of (by kernel_rfl)
theorem n_law_two_good__law_fraction : NmG (defScope s_law_two_good) "_law_fraction" := .of (by kernel_rfl)
theorem n_law_two_good__less : NmG (defScope s_law_two_good) "less" := .of (by kernel_rfl)
theorem n_law_two_good__isinstance : NmG (defScope s_law_two_good) "isinstance" := .of (by kernel_rfl)
theorem n_law_two_good__bool : NmG (defScope s_law_two_good) "bool" := .of (by kernel_rfl)

theorem ok_law_two_good (T : Txt K mg) (hq : Quiet CX) {f : Addr} {fd : FuncData} (D : Df K mg "_law_two_good" s_law_two_good ["one", "two"] f fd) {f_law_fraction : Addr} {fd_law_fraction : FuncData} (D_law_fraction : Df K mg "_law_fraction" s_law_fraction ["top", "bottom"] f_law_fraction fd_law_fraction) (G_law_fraction : FnOk P w K mg base CX 2 f_law_fraction fd_law_fraction ["top", "bottom"] (sp_law_fraction T)) {f_law_is_fraction : Addr} {fd_law_is_fraction : FuncData} (D_law_is_fraction : Df K mg "_law_is_fraction" s_law_is_fraction ["found"] f_law_is_fraction fd_law_is_fraction) (G_law_is_fraction : FnOk P w K mg base CX 2 f_law_is_fraction fd_law_is_fraction ["found"] (sp_law_is_fraction T)) {f_less : Addr} {fd_less : FuncData} (D_less : Df K mg "less" s_less ["one", "two"] f_less fd_less) (G_less : FnOk P w K mg base CX 1 f_less fd_less ["one", "two"] (sp_less T)) {f_minus : Addr} {fd_minus : FuncData} (D_minus : Df K mg "minus" s_minus ["one", "two"] f_minus fd_minus) (G_minus : FnOk P w K mg base CX 5 f_minus fd_minus ["one", "two"] (sp_minus T)) {f_plus : Addr} {fd_plus : FuncData} (D_plus : Df K mg "plus" s_plus ["one", "two"] f_plus fd_plus) (G_plus : FnOk P w K mg base CX 4 f_plus fd_plus ["one", "two"] (sp_plus T)) {f_times : Addr} {fd_times : FuncData} (D_times : Df K mg "times" s_times ["one", "two"] f_times fd_times) (G_times : FnOk P w K mg base CX 3 f_times fd_times ["one", "two"] (sp_times T)) : FnOk P w K mg base CX 6 f fd ["one", "two"] (sp_law_two_good T) := by
  refine D.F.okC sc_law_two_good (fun vs H Q E h => ?_) (fun cdv A outer s H vs Q E hr h => ?_)
  · obtain ⟨a, b, f, g, rfl, _⟩ := h
    rfl
  · obtain ⟨a, b, f, g, rfl, ha, hb, fb, gb, k⟩ := h
    have hv := hr.units
    refine ⟨_, (pss_cons (ps_set (i := 2) sc_law_two_good.nd rfl (Or.inl n_law_two_good__bottom.l) (pe_op op_mulB (pe_ix ix_tup (pvl 0 n_law_two_good__one) pe_int (fun _ _ => rfl)) (pe_ix ix_tup (pvl 1 n_law_two_good__two) pe_int (fun _ _ => rfl)))) (pss_cons (ps_set (i := 3) sc_law_two_good.nd rfl (Or.inl n_law_two_good__due.l) (pe_lst (pa_cons (pe_op op_add (pe_op op_mulB (pe_ix ix_tup (pvl 0 n_law_two_good__one) pe_int (fun _ _ => rfl)) (pe_ix ix_tup (pvl 1 n_law_two_good__two) pe_int (fun _ _ => rfl))) (pe_op op_mulB (pe_ix ix_tup (pvl 1 n_law_two_good__two) pe_int (fun _ _ => rfl)) (pe_ix ix_tup (pvl 0 n_law_two_good__one) pe_int (fun _ _ => rfl)))) (pa_cons (pe_op op_sub (pe_op op_mulB (pe_ix ix_tup (pvl 0 n_law_two_good__one) pe_int (fun _ _ => rfl)) (pe_ix ix_tup (pvl 1 n_law_two_good__two) pe_int (fun _ _ => rfl))) (pe_op op_mulB (pe_ix ix_tup (pvl 1 n_law_two_good__two) pe_int (fun _ _ => rfl)) (pe_ix ix_tup (pvl 0 n_law_two_good__one) pe_int (fun _ _ => rfl)))) (pa_cons (pe_op op_mulB (pe_ix ix_tup (pvl 0 n_law_two_good__one) pe_int (fun _ _ => rfl)) (pe_ix ix_tup (pvl 1 n_law_two_good__two) pe_int (fun _ _ => rfl))) pa_nil))))) (pss_cons (ps_set (i := 4) sc_law_two_good.nd rfl (Or.inl n_law_two_good__found.l) (pe_lst (pa_cons (pe_call G_plus (hr.mono (by decide)) n_law_two_good__plus.g D_plus.m D_plus.F.kp D_plus.b .nil (passQ hq) (pa_cons (pvl 0 n_law_two_good__one) (pa_cons (pvl 1 n_law_two_good__two) pa_nil)) (hdb := n_law_two_good__plus.d)) (pa_cons (pe_call G_minus (hr.mono (by decide)) n_law_two_good__minus.g D_minus.m D_minus.F.kp D_minus.b .nil (passQ hq) (pa_cons (pvl 0 n_law_two_good__one) (pa_cons (pvl 1 n_law_two_good__two) pa_nil)) (hdb := n_law_two_good__minus.d)) (pa_cons (pe_call G_times (hr.mono (by decide)) n_law_two_good__times.g D_times.m D_times.F.kp D_times.b .nil (passQ hq) (pa_cons (pvl 0 n_law_two_good__one) (pa_cons (pvl 1 n_law_two_good__two) pa_nil)) (hdb := n_law_two_good__times.d)) pa_nil))))) (pss_cons (ps_for PassesOwn.never rfl (pi_range1 n_law_two_good__range.g T.range (pa_cons pe_int pa_nil)) (pg_name (i := 5) sc_law_two_good.nd rfl (Or.inl n_law_two_good__k.l)) (pss_one (ps_if (PW.pt (pw_or (pt_not (pt_val (pe_call G_law_is_fraction (hr.mono (by decide)) n_law_two_good__law_is_fraction.g D_law_is_fraction.m D_law_is_fraction.F.kp D_law_is_fraction.b .nil (passQ hq) (pa_cons (pe_ix ix_list (pvl 4 n_law_two_good__found) (pvl 5 n_law_two_good__k) (fun _ _ => rfl)) pa_nil) (hdb := n_law_two_good__law_is_fraction.d)))) (pw_or1 (pt_cmpR (op_neD hv) (pe_ix ix_list (pvl 4 n_law_two_good__found) (pvl 5 n_law_two_good__k) (fun _ _ => rfl)) (pe_call G_law_fraction (hr.mono (by decide)) n_law_two_good__law_fraction.g D_law_fraction.m D_law_fraction.F.kp D_law_fraction.b .nil (passQ hq) (pa_cons (pe_ix ix_list (pvl 3 n_law_two_good__due) (pvl 5 n_law_two_good__k) (fun _ _ => rfl)) (pa_cons (pvl 2 n_law_two_good__bottom) pa_nil)) (hdb := n_law_two_good__law_fraction.d)) (nomark _))))) (pss_one (ps_ret pe_bl)) pss_nil))) (pss_cons (ps_set (i := 6) sc_law_two_good.nd rfl (Or.inl n_law_two_good__told.l) (pe_call G_less (hr.mono (by decide)) n_law_two_good__less.g D_less.m D_less.F.kp D_less.b .nil (passQ hq) (pa_cons (pvl 0 n_law_two_good__one) (pa_cons (pvl 1 n_law_two_good__two) pa_nil)) (hdb := n_law_two_good__less.d))) (pss_one (ps_ret (pe_and (pe_callB call_isinst n_law_two_good__isinstance.g T.isinstance pb_isinstance (pa_cons (pvl 6 n_law_two_good__told) (pa_cons (pe_bltn (v := .ty "bool") n_law_two_good__bool.g T.bool pb_bool rfl (hn := n_law_two_good__bool.n) (hd := n_law_two_good__bool.d)) pa_nil)) (hn := n_law_two_good__isinstance.n) (hdb := n_law_two_good__isinstance.d)) (pe_one (pe_cmpR op_eq (pvl 6 n_law_two_good__told) (pe_cmpR op_lt (pe_op op_mulB (pe_ix ix_tup (pvl 0 n_law_two_good__one) pe_int (fun _ _ => rfl)) (pe_ix ix_tup (pvl 1 n_law_two_good__two) pe_int (fun _ _ => rfl))) (pe_op op_mulB (pe_ix ix_tup (pvl 1 n_law_two_good__two) pe_int (fun _ _ => rfl)) (pe_ix ix_tup (pvl 0 n_law_two_good__one) pe_int (fun _ _ => rfl))) (nomark _)) (nomark _))))))))))), ?_⟩
    rw [show L2.start ["one", "two", "bottom", "due", "found", "k", "told"] [V.ref a, V.ref b] = [some (V.ref a), some (V.ref b), none, none, none, none, none] from rfl]
    have ub : ∀ {x : Int}, x.natAbs < 2 ^ 90 → x.natAbs < 2 ^ 4000 := fun h => up_bits h (by omega)
    refine cutS fun N1 h1 => ?_
    walk_at "rd"
    refine ixTS (SqT.of ha) rfl (ixTS (SqT.of hb) rfl ⟨_, rfl, _, rfl, mul_ok (ub fb.2.2) (ub gb.2.2), h1 _ _ (cutS fun N2 h2 => ?_)⟩)
    have bo0 : 0 < f.2 * g.2 := Int.mul_pos fb.1 gb.1
    have bob : (f.2 * g.2).natAbs < 2 ^ 4000 := up_bits (mul_bits fb.2.2 gb.2.2) (by decide)
    walk_at "rd"
    refine ixTS (SqT.of ha) rfl (ixTS (SqT.of hb) rfl ⟨_, rfl, _, rfl, mul_ok (ub fb.2.1) (ub gb.2.2), ?_⟩)
    refine ixTS (SqT.of hb) rfl (ixTS (SqT.of ha) rfl ⟨_, rfl, _, rfl, mul_ok (ub gb.2.1) (ub fb.2.2), ?_⟩)
    refine ixTS (SqT.of ha) rfl (ixTS (SqT.of hb) rfl ⟨_, rfl, _, rfl, mul_ok (ub fb.2.1) (ub gb.2.2), ?_⟩)
    refine ixTS (SqT.of hb) rfl (ixTS (SqT.of ha) rfl ⟨_, rfl, _, rfl, mul_ok (ub gb.2.1) (ub fb.2.2), ?_⟩)
    refine ixTS (SqT.of ha) rfl (ixTS (SqT.of hb) rfl ⟨_, rfl, _, rfl, mul_ok (ub fb.2.1) (ub gb.2.1), ?_⟩)
    refine ⟨smallE (by simp), fun ld nd => h2 _ _ (cutS fun N3 h3 => ?_)⟩
    have s1 := Same.new (.lst [V.int (f.1 * g.2 + g.1 * f.2), V.int (f.1 * g.2 - g.1 * f.2), V.int (f.1 * g.1)]) nd
    have e1 : upd H ld (.lst [V.int (f.1 * g.2 + g.1 * f.2), V.int (f.1 * g.2 - g.1 * f.2), V.int (f.1 * g.1)]) ld = some (.lst [V.int (f.1 * g.2 + g.1 * f.2), V.int (f.1 * g.2 - g.1 * f.2), V.int (f.1 * g.1)]) := upd_same
    generalize upd H ld (.lst [V.int (f.1 * g.2 + g.1 * f.2), V.int (f.1 * g.2 - g.1 * f.2), V.int (f.1 * g.1)]) = H1 at s1 e1 ⊢
    walk_at "rd"
    refine ⟨a, b, f, g, 90, rfl, s1 _ _ ha, s1 _ _ hb, fb, gb, by decide, fun p1 q1 r1 H2 fr1 _ s2 e2 => ?_⟩
    refine ⟨a, b, f, g, 90, rfl, (s1.trans s2) _ _ ha, (s1.trans s2) _ _ hb, fb, gb, by decide, fun p2 q2 r2 H3 fr2 _ s3 e3 => ?_⟩
    have s13 := s1.trans (s2.trans s3)
    refine ⟨a, b, f, g, 90, rfl, s13 _ _ ha, s13 _ _ hb, fb, gb, by decide, fun p3 q3 r3 H4 fr3 _ s4 e4 => ⟨smallE (by simp), fun lf nf => h3 _ _ (cutS fun N4 h4 => ?_)⟩⟩
    have s5 := Same.new (.lst [V.ref r1, V.ref r2, V.ref r3]) nf
    have e5 : upd H4 lf (.lst [V.ref r1, V.ref r2, V.ref r3]) lf = some (.lst [V.ref r1, V.ref r2, V.ref r3]) := upd_same
    have s15 := s13.trans (s4.trans s5)
    have e1' := (s2.trans (s3.trans (s4.trans s5))) _ _ e1
    have e2' := (s3.trans (s4.trans s5)) _ _ e2
    have e3' := (s4.trans s5) _ _ e3
    have e4' := s5 _ _ e4
    generalize upd H4 lf (.lst [V.ref r1, V.ref r2, V.ref r3]) = H5 at s15 e5 e1' e2' e3' e4' ⊢
    clear s1 s2 s3 s4 s5 s13 e1 e2 e3 e4 nf nd
    have get : ∀ i : Nat, i < 3 → ∃ (d x y : Int) (r : Addr), atI [V.int (f.1 * g.2 + g.1 * f.2), V.int (f.1 * g.2 - g.1 * f.2), V.int (f.1 * g.1)] (0 + (i : Int)) = some (.int d) ∧ atI [V.ref r1, V.ref r2, V.ref r3] (0 + (i : Int)) = some (.ref r) ∧ H5 r = some (.tup [V.int x, V.int y]) ∧ Frc d (f.2 * g.2) x y := fun i hi => by
      rcases (show i = 0 ∨ i = 1 ∨ i = 2 by omega) with rfl | rfl | rfl
      · exact ⟨_, _, _, r1, rfl, rfl, e2', fr1⟩
      · exact ⟨_, _, _, r2, rfl, rfl, e3', fr2⟩
      · exact ⟨_, _, _, r3, rfl, rfl, e4', fr3⟩
    walk_at "rd"
    refine ⟨by decide, by decide, ?_⟩
    refine for_rangeH (fun i σ H6 => Same H5 H6 ∧ ∃ v5 v6, σ = [some (V.ref a), some (V.ref b), some (V.int (f.2 * g.2)), some (V.ref ld), some (V.ref lf), v5, v6]) ⟨Same.refl _, _, _, rfl⟩ ?_ ?_
    · rintro i σ H6 N BB hBB hN hi ⟨s6, v5, v6, rfl⟩
      refine hBB _ _ ?_
      obtain ⟨d, x, y, r, g1, g2, g3, g4⟩ := get i (show i < 3 from hi)
      walk_at "rd"
      refine ixL (s6 _ _ e5) g2 ⟨r, x, y, rfl, s6 _ _ g3, g4.pos, g4.one, _, rfl, ?_⟩
      rw [if_neg (by decide)]
      refine ixL (s6 _ _ e5) g2 (ixL (s6 _ _ e1') g1 ⟨d, _, rfl, bo0, bob, fun x2 y2 r2 fr2 n2 => ?_⟩)
      obtain ⟨z1, z2⟩ := frc_same fr2 g4 rfl (Int.ne_of_gt bo0) (Int.ne_of_gt bo0)
      subst z1 z2
      have s7 := Same.new (.tup [V.int x2, V.int y2]) n2
      refine deep_same (f := (x2, y2)) (s7 _ _ (s6 _ _ g3)) upd_same ⟨_, rfl, ?_⟩
      rw [if_neg (by decide)]
      exact hN _ _ ⟨s6.trans s7, _, _, rfl⟩
    · rintro BB σ H6 hBB ⟨s6, v5, v6, rfl⟩
      refine hBB _ _ (h4 _ _ ?_)
      walk_at "rd"
      have ha6 := (s15.trans s6) _ _ ha
      have hb6 := (s15.trans s6) _ _ hb
      refine ⟨a, b, f, g, 90, rfl, ha6, hb6, fb, gb, by decide, _, _, _, true, rfl, .bl _, fun cv h => by cases h; rfl, _, rfl, ?_⟩
      rw [if_pos rfl]
      refine ixTS (SqT.of ha6) rfl (ixTS (SqT.of hb6) rfl ⟨_, rfl, _, rfl, mul_ok (ub fb.2.1) (ub gb.2.2), ?_⟩)
      refine ixTS (SqT.of hb6) rfl (ixTS (SqT.of ha6) rfl ⟨_, rfl, _, rfl, mul_ok (ub gb.2.1) (ub fb.2.2), rfl, ?_⟩)
      rw [decide_eq_true rfl]
      exact k _ (s15.trans s6)
/-! #### law -/
def spLaw (K : PySem.W.Frag) : Sp := fun vs H Q _ => ∃ (a : Addr) (ns : List Int), vs = [.ref a] ∧ SqL K H a (ns.map V.int) ∧ ns.length ≤ 63 ∧ ∀ H', Q (.bl true) H'
def sp_law (T : Txt K mg) : Sp := spLaw K
abbrev s_law : Stmt := top 17
theorem sc_law : FnScope ["script", "some", "k", "cell", "pot", "one", "two", "top", "bottom", "share", "handed", "due"] ["script"] (defScope s_law) := FnScope.of (by kernel_rfl)
theorem n_law__script : NmL (defScope s_law) "script" := .of (by kernel_rfl)
theorem n_law__some : NmL (defScope s_law) "some" := .of (by kernel_rfl)
theorem n_law__k : NmL (defScope s_law) "k" := .of (by kernel_rfl)
theorem n_law__cell : NmL (defScope s_law) "cell" := .of (by kernel_rfl)
theorem n_law__pot : NmL (defScope s_law) "pot" := .of (by kernel_rfl)
theorem n_law__one : NmL (defScope s_law) "one" := .of (by kernel_rfl)
theorem n_law__two : NmL (defScope s_law) "two" := .of (by kernel_rfl)
theorem n_law__top : NmL (defScope s_law) "top" := .of (by kernel_rfl)
theorem n_law__bottom : NmL (defScope s_law) "bottom" := .of (by kernel_rfl)
theorem n_law__share : NmL (defScope s_law) "share" := .of (by kernel_rfl)
theorem n_law__handed : NmL (defScope s_law) "handed" := .of (by kernel_rfl)
theorem n_law__due : NmL (defScope s_law) "due" := .of (by kernel_rfl)
theorem n_law__enumerate : NmG (defScope s_law) "enumerate" := .of (by kernel_rfl)
theorem n_law__law_stir : NmG (defScope s_law) "_law_stir" := .of (by kernel_rfl)
theorem n_law__law_drawn : NmG (defScope s_law) "_law_drawn" := .of (by kernel_rfl)
theorem n_law__int : NmG (defScope s_law) "int" := .of (by kernel_rfl)
theorem n_law__law_two_good : NmG (defScope s_law) "_law_two_good" := .of (by kernel_rfl)
theorem n_law__list : NmG (defScope s_law) "list" := .of (by kernel_rfl)
theorem n_law__law_fraction : NmG (defScope s_law) "_law_fraction" := .of (by kernel_rfl)
theorem n_law__sum_up : NmG (defScope s_law) "sum_up" := .of (by kernel_rfl)
theorem n_law__tuple : NmG (defScope s_law) "tuple" := .of (by kernel_rfl)

theorem ok_law (T : Txt K mg) (hq : Quiet CX) {f : Addr} {fd : FuncData} (D : Df K mg "law" s_law ["script"] f fd) {f_law_drawn : Addr} {fd_law_drawn : FuncData} (D_law_drawn : Df K mg "_law_drawn" s_law_drawn ["pot", "great"] f_law_drawn fd_law_drawn) (G_law_drawn : FnOk P w K mg base CX 3 f_law_drawn fd_law_drawn ["pot", "great"] (sp_law_drawn T)) {f_law_fraction : Addr} {fd_law_fraction : FuncData} (D_law_fraction : Df K mg "_law_fraction" s_law_fraction ["top", "bottom"] f_law_fraction fd_law_fraction) (G_law_fraction : FnOk P w K mg base CX 2 f_law_fraction fd_law_fraction ["top", "bottom"] (sp_law_fraction T)) {f_law_stir : Addr} {fd_law_stir : FuncData} (D_law_stir : Df K mg "_law_stir" s_law_stir ["cell", "k"] f_law_stir fd_law_stir) (G_law_stir : FnOk P w K mg base CX 1 f_law_stir fd_law_stir ["cell", "k"] (sp_law_stir T)) {f_law_two_good : Addr} {fd_law_two_good : FuncData} (D_law_two_good : Df K mg "_law_two_good" s_law_two_good ["one", "two"] f_law_two_good fd_law_two_good) (G_law_two_good : FnOk P w K mg base CX 6 f_law_two_good fd_law_two_good ["one", "two"] (sp_law_two_good T)) {f_sum_up : Addr} {fd_sum_up : FuncData} (D_sum_up : Df K mg "sum_up" s_sum_up ["some"] f_sum_up fd_sum_up) (G_sum_up : FnOk P w K mg base CX 3 f_sum_up fd_sum_up ["some"] (sp_sum_up T)) : FnOk P w K mg base CX 7 f fd ["script"] (sp_law T) := by
  refine D.F.okC sc_law (fun vs H Q E h => ?_) (fun cdv A outer s H vs Q E hr h => ?_)
  · obtain ⟨a, ns, rfl, _⟩ := h
    rfl
  · obtain ⟨a, ns, rfl, ha, hn, k⟩ := h
    have hv := hr.units
    refine ⟨_, (pss_cons (ps_set (i := 1) sc_law.nd rfl (Or.inl n_law__some.l) (pe_lst pa_nil)) (pss_cons (ps_for PassesOwn.never rfl (pi_enum true n_law__enumerate.g T.enumerate (pe_op op_cat (pe_lst (pa_cons pe_int pa_nil)) (pe_slice sl_list (pvl 0 n_law__script) po_none (po_some pe_int)))) (pg_tup (n := 2) rfl (pgs_cons (pg_name (i := 2) sc_law.nd rfl (Or.inl n_law__k.l)) (pgs_cons (pg_name (i := 3) sc_law.nd rfl (Or.inl n_law__cell.l)) pgs_nil))) (pss_cons (ps_set (i := 4) sc_law.nd rfl (Or.inl n_law__pot.l) (pe_lst (pa_cons (pe_ix ix_list (pe_lst (pa_cons (pe_op op_mod (pvl 3 n_law__cell) (pe_op op_pow pe_int pe_int)) (pa_cons (pe_call G_law_stir (hr.mono (by decide)) n_law__law_stir.g D_law_stir.m D_law_stir.F.kp D_law_stir.b .nil (passQ hq) (pa_cons (pvl 3 n_law__cell) (pa_cons (pe_op op_add pe_int (pvl 2 n_law__k)) pa_nil)) (hdb := n_law__law_stir.d)) pa_nil))) (pe_op op_mod (pvl 2 n_law__k) pe_int) (fun _ _ => rfl)) pa_nil))) (pss_cons (ps_set (i := 5) sc_law.nd rfl (Or.inl n_law__one.l) (pe_call G_law_drawn (hr.mono (by decide)) n_law__law_drawn.g D_law_drawn.m D_law_drawn.F.kp D_law_drawn.b .nil (passQ hq) (pa_cons (pvl 4 n_law__pot) (pa_cons pe_bl pa_nil)) (hdb := n_law__law_drawn.d))) (pss_cons (ps_set (i := 6) sc_law.nd rfl (Or.inl n_law__two.l) (pe_ix ix_list (pe_lst (pa_cons (pe_call G_law_drawn (hr.mono (by decide)) n_law__law_drawn.g D_law_drawn.m D_law_drawn.F.kp D_law_drawn.b .nil (passQ hq) (pa_cons (pvl 4 n_law__pot) (pa_cons pe_bl pa_nil)) (hdb := n_law__law_drawn.d)) (pa_cons (pvl 5 n_law__one) pa_nil))) (pe_callTy call_int1 n_law__int.g T.int pb_int (pa_cons (pe_cmpR op_eq (pe_op op_mod (pe_call G_law_stir (hr.mono (by decide)) n_law__law_stir.g D_law_stir.m D_law_stir.F.kp D_law_stir.b .nil (passQ hq) (pa_cons (pvl 3 n_law__cell) (pa_cons pe_int pa_nil)) (hdb := n_law__law_stir.d)) pe_int) pe_int (nomark _)) pa_nil) (hn := n_law__int.n) (hdb := n_law__int.d)) (fun _ _ => rfl))) (pss_cons (ps_if (PW.pt (pw_or (pt_not (pt_val (pe_call G_law_two_good (hr.mono (by decide)) n_law__law_two_good.g D_law_two_good.m D_law_two_good.F.kp D_law_two_good.b .nil (passQ hq) (pa_cons (pvl 5 n_law__one) (pa_cons (pvl 6 n_law__two) pa_nil)) (hdb := n_law__law_two_good.d)))) (pw_or1 (pt_not (pt_val (pe_call G_law_two_good (hr.mono (by decide)) n_law__law_two_good.g D_law_two_good.m D_law_two_good.F.kp D_law_two_good.b .nil (passQ hq) (pa_cons (pvl 6 n_law__two) (pa_cons (pvl 5 n_law__one) pa_nil)) (hdb := n_law__law_two_good.d))))))) (pss_one (ps_ret pe_bl)) pss_nil) (pss_cons (ps_set (i := 1) sc_law.nd rfl (Or.inl n_law__some.l) (pe_op op_cat (pe_slice sl_list (pvl 1 n_law__some) (po_some (pe_un un_neg pe_int)) po_none) (pe_lst (pa_cons (pvl 5 n_law__one) (pa_cons (pvl 6 n_law__two) pa_nil))))) (pss_cons (ps_set (i := 7) sc_law.nd rfl (Or.inl n_law__top.l) pe_int) (pss_cons (ps_set (i := 8) sc_law.nd rfl (Or.inl n_law__bottom.l) pe_int) (pss_cons (ps_for PassesOwn.never rfl (pi_list (pvl 1 n_law__some)) (pg_name (i := 9) sc_law.nd rfl (Or.inl n_law__share.l)) (pss_cons (ps_set (i := 7) sc_law.nd rfl (Or.inl n_law__top.l) (pe_op op_add (pe_op op_mulB (pvl 7 n_law__top) (pe_ix ix_tup (pvl 9 n_law__share) pe_int (fun _ _ => rfl))) (pe_op op_mulB (pe_ix ix_tup (pvl 9 n_law__share) pe_int (fun _ _ => rfl)) (pvl 8 n_law__bottom)))) (pss_one (ps_set (i := 8) sc_law.nd rfl (Or.inl n_law__bottom.l) (pe_op op_mulB (pvl 8 n_law__bottom) (pe_ix ix_tup (pvl 9 n_law__share) pe_int (fun _ _ => rfl))))))) (pss_cons (ps_set (i := 10) sc_law.nd rfl (Or.inl n_law__handed.l) (pe_callTy call_list_of n_law__list.g T.list pb_list (pa_cons (pvl 1 n_law__some) pa_nil) (hn := n_law__list.n) (hdb := n_law__list.d))) (pss_cons (ps_set (i := 11) sc_law.nd rfl (Or.inl n_law__due.l) (pe_call G_law_fraction (hr.mono (by decide)) n_law__law_fraction.g D_law_fraction.m D_law_fraction.F.kp D_law_fraction.b .nil (passQ hq) (pa_cons (pvl 7 n_law__top) (pa_cons (pvl 8 n_law__bottom) pa_nil)) (hdb := n_law__law_fraction.d))) (pss_one (ps_if (PW.pt (pw_or (pt_cmpR (op_neD hv) (pe_call G_sum_up (hr.mono (by decide)) n_law__sum_up.g D_sum_up.m D_sum_up.F.kp D_sum_up.b .nil (passQ hq) (pa_cons (pvl 10 n_law__handed) pa_nil) (hdb := n_law__sum_up.d)) (pvl 11 n_law__due) (nomark _)) (pw_or (pt_cmpR (op_neD hv) (pvl 10 n_law__handed) (pvl 1 n_law__some) (nomark _)) (pw_or1 (pt_cmpR (op_neD hv) (pe_call G_sum_up (hr.mono (by decide)) n_law__sum_up.g D_sum_up.m D_sum_up.F.kp D_sum_up.b .nil (passQ hq) (pa_cons (pe_callTy call_tuple_of n_law__tuple.g T.tuple pb_tuple (pa_cons (pvl 1 n_law__some) pa_nil) (hn := n_law__tuple.n) (hdb := n_law__tuple.d)) pa_nil) (hdb := n_law__sum_up.d)) (pvl 11 n_law__due) (nomark _)))))) (pss_one (ps_ret pe_bl)) pss_nil))))))))))))) (pss_one (ps_ret (pe_and (pe_cmpR (op_eqD hv) (pe_call G_sum_up (hr.mono (by decide)) n_law__sum_up.g D_sum_up.m D_sum_up.F.kp D_sum_up.b .nil (passQ hq) (pa_cons (pe_lst pa_nil) pa_nil) (hdb := n_law__sum_up.d)) (pe_tup (pa_cons pe_int (pa_cons pe_int pa_nil))) (nomark _)) (pe_one (pe_cmpR (op_eqD hv) (pe_call G_sum_up (hr.mono (by decide)) n_law__sum_up.g D_sum_up.m D_sum_up.F.kp D_sum_up.b .nil (passQ hq) (pa_cons (pe_lst (pa_cons (pe_tup (pa_cons pe_int (pa_cons pe_int pa_nil))) (pa_cons (pe_tup (pa_cons pe_int (pa_cons pe_int pa_nil))) pa_nil))) pa_nil) (hdb := n_law__sum_up.d)) (pe_tup (pa_cons pe_int (pa_cons pe_int pa_nil))) (nomark _)))))))), ?_⟩
    rw [show L2.start ["script", "some", "k", "cell", "pot", "one", "two", "top", "bottom", "share", "handed", "due"] [V.ref a] = [some (V.ref a), none, none, none, none, none, none, none, none, none, none, none] from rfl]
    unfold tSl tPart tNoPart
    refine cutS fun N0 h0 => ?_
    walk_at "rd"
    refine ⟨smallE (by simp), fun ls0 nls0 => h0 _ _ (cutS fun N1 h1 => ?_)⟩
    have t0 := Same.new (.lst []) nls0
    have es0 : upd H ls0 (.lst []) ls0 = some (.lst (([] : List Addr).map V.ref)) := upd_same
    generalize upd H ls0 (.lst []) = H0 at t0 es0 ⊢
    walk_at "rd"
    refine ⟨smallE (by simp), fun q0 n0 => ?_⟩
    have t1 := t0.trans (Same.new (.lst [V.int 0]) n0)
    refine ⟨a, _, rfl, Same.seq t1 ha, fun q1 n1 => ?_⟩
    rw [cut_hi _ (by decide), ← List.map_take]
    have u0 := Same.new (.lst [V.int 0]) n0
    have u1 := Same.new (.lst ((ns.take (Int.toNat 24)).map V.int)) n1
    refine ⟨q0, q1, _, _, rfl, rfl, u1 _ _ upd_same, upd_same, smallE (by simp; omega), fun l nl => ?_⟩
    have t2 := (u0.trans u1).trans (Same.new (.lst ([V.int 0] ++ (ns.take (Int.toNat 24)).map V.int)) nl)
    rw [show [V.int 0] ++ (ns.take (Int.toNat 24)).map V.int = ((0 : Int) :: ns.take (Int.toNat 24)).map V.int from rfl] at t2 ⊢
    have el : upd (upd (upd H0 q0 (.lst [V.int 0])) q1 (.lst ((ns.take (Int.toNat 24)).map V.int))) l (.lst (((0 : Int) :: ns.take (Int.toNat 24)).map V.int)) l = some (.lst (((0 : Int) :: ns.take (Int.toNat 24)).map V.int)) := upd_same
    have ll : ((0 : Int) :: ns.take (Int.toNat 24)).length ≤ 41 := by simp; omega
    generalize upd (upd (upd H0 q0 (.lst [V.int 0])) q1 (.lst ((ns.take (Int.toNat 24)).map V.int))) l (.lst (((0 : Int) :: ns.take (Int.toNat 24)).map V.int)) = H1 at t2 el ⊢
    generalize (0 : Int) :: ns.take (Int.toNat 24) = cs at el ll ⊢
    have es1 := t2 _ _ es0
    clear t0 t1 t2 u0 u1 n0 n1 nl es0
    refine ⟨l, rfl, ⟨_, SqL.of el⟩, ?_⟩
    refine for_enum (K := K) (c := true) (xs := cs.map V.int) (fun i σ H2 => Same H1 H2 ∧ ∃ (ls : Addr) (qs : List Addr) (fs : List (Int × Int)) (v2 v3 v4 v5 v6 v7 v8 v9 v10 v11 : Option V), H2 ls = some (.lst (qs.map V.ref)) ∧ FrsAt H2 qs fs ∧ (∀ f ∈ fs, FrB 90 f) ∧ fs.length ≤ 6 ∧ σ = [some (V.ref a), some (V.ref ls), v2, v3, v4, v5, v6, v7, v8, v9, v10, v11]) ⟨Same.refl _, ls0, [], [], _, _, _, _, _, _, _, _, _, _, es1, .nil, (fun f hf => nomatch hf), by simp, rfl⟩ (fun i σ H2 z => SqL.of (z.1 _ _ el)) ?_ ?_
    · rintro i' x σ H2 pq N hN hx ⟨s2, ls, qs, fs, v2, v3, v4, v5, v6, v7, v8, v9, v10, v11, els, hfs, fbs, fl, rfl⟩ npq
      rw [List.getElem?_map] at hx
      obtain ⟨c, gc, rfl⟩ := Option.map_eq_some_iff.mp hx
      have il := (List.getElem?_eq_some_iff.mp gc).1
      have s3 := Same.new (.tup [V.int (i' : Int), V.int c]) npq
      refine gtup2 (SqT.of upd_same) ?_
      have els3 := s3 _ _ els
      have hfs3 := hfs.same s3
      have s13 := s2.trans s3
      generalize upd H2 pq (.tup [V.int (i' : Int), V.int c]) = H3 at s13 els3 hfs3 ⊢
      clear s2 s3 els hfs npq
      simp only [List.set_cons_zero, List.set_cons_succ]
      refine cutS fun M1 k1 => ?_
      walk_at "rd"
      refine ⟨⟨by decide, by decide, by decide⟩, p60, c, 70 + (i' : Int), rfl, by omega, by omega, fun v v0 => ⟨smallE (by simp), fun p1 n1 => ⟨by decide, ?_⟩⟩⟩
      obtain ⟨m0, hm0⟩ : ∃ m0 : Int, atI [V.int (c % 10 ^ Int.toNat 60), V.int v] ((i' : Int) % 2) = some (.int m0) := by
        rcases (show (i' : Int) % 2 = 0 ∨ (i' : Int) % 2 = 1 by omega) with z | z <;> rw [z] <;> exact ⟨_, rfl⟩
      refine ixL upd_same hm0 ⟨smallE (by simp), fun pt npt => ?_⟩
      have u1 := Same.new (.lst [V.int (c % 10 ^ Int.toNat 60), V.int v]) n1
      have nP : H3 pt = none := u1.free npt
      have sP := u1.trans (Same.new (.lst [V.int m0]) npt)
      have eP : upd (upd H3 p1 (.lst [V.int (c % 10 ^ Int.toNat 60), V.int v])) pt (.lst [V.int m0]) pt = some (.lst [V.int m0]) := upd_same
      generalize upd (upd H3 p1 (.lst [V.int (c % 10 ^ Int.toNat 60), V.int v])) pt (.lst [V.int m0]) = H4 at sP eP ⊢
      clear u1 n1 npt
      have on : ∀ {H8 H9 : Hp}, Same H3 H8 → (∀ b o, H8 b = some o → b ≠ pt → H9 b = some o) → Same H3 H9 := fun s8 k9 b o e => k9 b o (s8 b o e) (fun z => by rw [z, nP] at e; cases e)
      refine k1 _ _ (cutS fun M2 k2 => ?_)
      walk_at "rd"
      refine ⟨pt, m0, rfl, eP, fun f r1 m1 H5 fb fo nr1 er1 eP5 kp5 => k2 _ _ (cutS fun M3 k3 => ?_)⟩
      have s5 := on sP kp5
      walk_at "rd"
      refine ⟨pt, m1, rfl, eP5, fun f' r2 m2 H6 fb' fo' nr2 er2 eP6 kp6 => ⟨smallE (by simp), fun p2 np2 => ⟨c, 69, rfl, by decide, by decide, fun w w0 => ⟨w, rfl, by decide, .inr ?_⟩⟩⟩⟩
      have s6 := on s5 kp6
      have er1' : H6 r1 = some (.tup [.int f.1, .int f.2]) := kp6 _ _ er1 (ne_of er1 eP5 (by intro z; cases z))
      have s67 := Same.new (.lst [V.ref r2, V.ref r1]) np2
      have s7 := s6.trans s67
      have e7 : upd H6 p2 (.lst [V.ref r2, V.ref r1]) p2 = some (.lst [V.ref r2, V.ref r1]) := upd_same
      have a1 := s67 _ _ er1'
      have a2 := s67 _ _ er2
      generalize upd H6 p2 (.lst [V.ref r2, V.ref r1]) = H7 at s7 e7 a1 a2 ⊢
      obtain ⟨rt, gt, hrt, art, gtb⟩ : ∃ (rt : Addr) (gt : Int × Int), atI [V.ref r2, V.ref r1] (if w % 6 = 1 then 1 else 0) = some (.ref rt) ∧ H7 rt = some (.tup [.int gt.1, .int gt.2]) ∧ FrB 90 gt := by
        by_cases cw : w % 6 = 1
        · rw [if_pos cw]; exact ⟨r1, f, rfl, a1, fb⟩
        · rw [if_neg cw]; exact ⟨r2, f', rfl, a2, fb'⟩
      refine ixL e7 hrt (k3 _ _ (cutS fun M4 k4 => ?_))
      clear e7 hrt a2 er2 er1 er1' eP eP5 eP6 kp5 kp6 sP s5 s6 s67 np2 nr1 nr2
      walk_at "rd"
      refine ⟨r1, rt, f, gt, rfl, a1, art, fb, gtb, fun H8 s8 => ⟨_, rfl, ?_⟩⟩
      rw [if_neg (by decide)]
      refine ⟨rt, r1, gt, f, rfl, s8 _ _ art, s8 _ _ a1, gtb, fb, fun H9 s9 => ⟨_, rfl, ?_⟩⟩
      rw [if_neg (by decide)]
      have s79 := s8.trans s9
      have a9 := s79 _ _ a1
      have art9 := s79 _ _ art
      have s39 := s7.trans s79
      refine k4 _ _ (cutS fun M5 k5 => ?_)
      walk_at "rd"
      have els9 := s39 _ _ els3
      have hfs9 := hfs3.same s39
      refine ⟨ls, _, rfl, SqL.of els9, fun l1 nl1 => ?_⟩
      rw [cut_back _ (by decide), List.length_map, ← List.map_drop]
      have ql : qs.length = fs.length := Paired.length hfs9
      have jl : (fs.drop (-4 + (qs.length : Int)).toNat).length ≤ 4 := by rw [List.length_drop]; omega
      generalize (-4 + (qs.length : Int)).toNat = j at jl ⊢
      have w1 := Same.new (.lst ((qs.drop j).map V.ref)) nl1
      refine ⟨smallE (by simp), fun l2 nl2 => ?_⟩
      have w2 := Same.new (.lst [V.ref r1, V.ref rt]) nl2
      refine ⟨l1, l2, _, _, rfl, rfl, w2 _ _ upd_same, upd_same, smallE (by simp; omega), fun ln nln => k5 _ _ (cutS fun M6 k6 => ?_)⟩
      rw [show (qs.drop j).map V.ref ++ [V.ref r1, V.ref rt] = (qs.drop j ++ [r1, rt]).map V.ref by rw [List.map_append]; rfl]
      have w3 := (w1.trans w2).trans (Same.new (.lst ((qs.drop j ++ [r1, rt]).map V.ref)) nln)
      have hq : FrsAt (upd (upd (upd H9 l1 (.lst ((qs.drop j).map V.ref))) l2 (.lst [V.ref r1, V.ref rt])) ln (.lst ((qs.drop j ++ [r1, rt]).map V.ref))) (qs.drop j ++ [r1, rt]) (fs.drop j ++ [f, gt]) :=
        FrsAt.same w3 (pr_app (R := fun (q : Addr) (f : Int × Int) => H9 q = some (.tup [.int f.1, .int f.2])) (.cons a9 (.cons art9 .nil)) (pr_drop j hfs9))
      have eln : upd (upd (upd H9 l1 (.lst ((qs.drop j).map V.ref))) l2 (.lst [V.ref r1, V.ref rt])) ln (.lst ((qs.drop j ++ [r1, rt]).map V.ref)) ln = some (.lst ((qs.drop j ++ [r1, rt]).map V.ref)) := upd_same
      have s10 := s13.trans (s39.trans w3)
      generalize upd (upd (upd H9 l1 (.lst ((qs.drop j).map V.ref))) l2 (.lst [V.ref r1, V.ref rt])) ln (.lst ((qs.drop j ++ [r1, rt]).map V.ref)) = H10 at hq eln s10 ⊢
      have fb2 : ∀ x ∈ fs.drop j ++ [f, gt], FrB 90 x := fun x hx => by
        rcases List.mem_append.mp hx with hx | hx
        · exact fbs x (List.mem_of_mem_drop hx)
        · simp only [List.mem_cons, List.mem_nil_iff, or_false] at hx
          rcases hx with rfl | rfl
          · exact fb
          · exact gtb
      have fl2 : (fs.drop j ++ [f, gt]).length ≤ 6 := by rw [List.length_append]; exact Nat.add_le_add jl (Nat.le_refl 2)
      generalize qs.drop j ++ [r1, rt] = qn at hq eln ⊢
      generalize fs.drop j ++ [f, gt] = fn at hq fb2 fl2 ⊢
      clear w1 w2 w3 nl1 nl2 nln jl hfs9 els9 art9 a9 s39 s79 s8 s9 s7 s13 ql
      have ql : qn.length = fn.length := Paired.length hq
      have mb : ∀ i, (mulL (fn.take i) (0, 1)).1.natAbs < 2 ^ 4000 ∧ (mulL (fn.take i) (0, 1)).2.natAbs < 2 ^ 4000 := fun i => by
        obtain ⟨b1, b2⟩ := mulL_bits (n := 90) (fs := fn.take i) (tb := (0, 1)) (b := 1) (fun x hx => fb2 x (List.mem_of_mem_take hx)) (by decide) (by decide)
        have h3 : 1 + (fn.take i).length * (90 + 1) ≤ 4000 := by
          have : (fn.take i).length ≤ 6 := by rw [List.length_take]; omega
          omega
        exact ⟨up_bits b1 h3, up_bits b2 h3⟩
      have ubx : ∀ {x : Int}, x.natAbs < 2 ^ 90 → x.natAbs < 2 ^ 4000 := fun h => up_bits h (by decide)
      walk_at "rd"
      refine k6 _ _ (cutS fun M7 k7 => ?_)
      walk_at "rd"
      refine k7 _ _ (cutS fun M8 k8 => ?_)
      walk_at "rd"
      refine ⟨⟨_, SqL.of eln⟩, ?_⟩
      refine for_listH (K := K) (xs := qn.map V.ref) (fun i σ H11 => H11 = H10 ∧ ∃ v9, σ = [some (V.ref a), some (V.ref ln), some (V.int (i' : Int)), some (V.int c), some (V.ref pt), some (V.ref r1), some (V.ref rt), some (V.int (mulL (fn.take i) (0, 1)).1), some (V.int (mulL (fn.take i) (0, 1)).2), v9, v10, v11]) ⟨rfl, _, rfl⟩ (fun i σ H11 _ z => by rw [z.1]; exact SqL.of eln) ?_ ?_
      · rintro i2 x σ H11 N2 BB hBB hN2 hx ⟨rfl, v9, rfl⟩
        refine hBB _ _ ?_
        rw [List.getElem?_map] at hx
        obtain ⟨q, gq, rfl⟩ := Option.map_eq_some_iff.mp hx
        obtain ⟨h, gh, eh⟩ := pr_get hq gq
        obtain ⟨h0, hb1, hb2⟩ := fb2 h (List.mem_of_getElem? gh)
        obtain ⟨m1, m2⟩ := mb i2
        walk_at "rd"
        refine ixTS (SqT.of eh) rfl ⟨_, rfl, mul_ok m1 (ubx hb2), ixTS (SqT.of eh) rfl ⟨_, rfl, mul_ok (ubx hb1) m2, ixTS (SqT.of eh) rfl ⟨_, rfl, mul_ok m2 (ubx hb2), hN2 _ _ ⟨rfl, some (V.ref q), ?_⟩⟩⟩⟩
        rw [List.take_succ, gh, Option.toList_some, mulL_snoc]
      · rintro BB σ H11 hBB ⟨rfl, v9, rfl⟩
        refine hBB _ _ (k8 _ _ (cutS fun M9 k9 => ?_))
        rw [List.length_map, ql, List.take_length]
        obtain ⟨m1, m2⟩ := mb fn.length
        rw [List.take_length] at m1 m2
        have mp : 0 < (mulL fn (0, 1)).2 := mulL_pos (fun x hx => (fb2 x hx).1) (by decide)
        walk_at "rd"
        refine ⟨_, .inl (SqL.of eln), fun lh nlh => k9 _ _ (cutS fun M10 k10 => ?_)⟩
        have w1 := Same.new (.lst (qn.map V.ref)) nlh
        walk_at "rd"
        refine ⟨_, _, rfl, mp, m2, fun x y rd frd nrd => k10 _ _ ?_⟩
        have w2 := w1.trans (Same.new (.tup [V.int x, V.int y]) nrd)
        have elh := Same.new (.tup [V.int x, V.int y]) nrd _ _ (upd_same (H := H11) (a := lh) (o := .lst (qn.map V.ref)))
        have erd : upd (upd H11 lh (.lst (qn.map V.ref))) rd (.tup [V.int x, V.int y]) rd = some (.tup [V.int x, V.int y]) := upd_same
        generalize upd (upd H11 lh (.lst (qn.map V.ref))) rd (.tup [V.int x, V.int y]) = H12 at w2 elh erd ⊢
        have n36 : fn.length * 90 ≤ 3000 := by omega
        have n10 : fn.length ≤ 1000 := by omega
        have mp' := Int.ne_of_gt mp
        walk_at "rd"
        refine ⟨lh, true, qn, fn, 90, rfl, elh, hq.same w2, fb2, n36, by decide, n10, fun x2 y2 r2 H13 fr2 nr2 s13 er2 => ?_⟩
        obtain ⟨z1, z2⟩ := frc_same fr2 frd rfl mp' mp'
        subst z1 z2
        refine deep_same (f := (x2, y2)) er2 (s13 _ _ erd) ⟨_, rfl, ?_⟩
        rw [if_neg (by decide)]
        have w3 := w2.trans s13
        refine ⟨_, _, .lst (SqL.of (s13 _ _ elh)) (deep_frs (hq.same w3)), .lst (SqL.of (w3 _ _ eln)) (deep_frs (hq.same w3)), ?_, ?_⟩
        · have := depth_frs fn
          simp only [PyData.depth]
          omega
        have ev : PyData.eqv (.list (fn.map dFr)) (.list (fn.map dFr)) = true := by
          simp only [PyData.eqv]
          exact eqv_frs fn
        rw [ev]
        refine ⟨_, rfl, ?_⟩
        rw [if_neg (by decide)]
        refine ⟨_, .inl ⟨SqL.of (w3 _ _ eln), fun lt nlt => ?_⟩⟩
        have w4 := Same.new (.tup (qn.map V.ref)) nlt
        refine ⟨lt, false, qn, fn, 90, rfl, upd_same, hq.same (w3.trans w4), fb2, n36, by decide, n10, fun x3 y3 r3 H14 fr3 nr3 s14 er3 => ?_⟩
        obtain ⟨z1, z2⟩ := frc_same fr3 frd rfl mp' mp'
        subst z1 z2
        refine deep_same (f := (x3, y3)) er3 (s14 _ _ (w4 _ _ (s13 _ _ erd))) ⟨_, rfl, ?_⟩
        rw [if_neg (by decide)]
        have w5 := w3.trans (w4.trans s14)
        exact hN _ _ ⟨s10.trans w5, ln, qn, fn, _, _, _, _, _, _, _, _, _, _, w5 _ _ eln, hq.same w5, fb2, fl2, rfl⟩
    · rintro σ H2 ⟨s2, ls, qs, fs, v2, v3, v4, v5, v6, v7, v8, v9, v10, v11, els, hfs, fbs, fl, rfl⟩
      refine h1 _ _ ?_
      walk_at "rd"
      have z01 : Frc 0 1 0 1 := ⟨by decide, by decide, by decide⟩
      refine ⟨smallE (by simp), fun l1 n1 => ⟨l1, true, [], [], 90, rfl, upd_same, .nil, (fun f hf => nomatch hf), by simp, by decide, by simp, fun p q r H3 fr nr s3 er => ⟨smallE (by simp), fun t1 nt1 => ?_⟩⟩⟩
      obtain ⟨z1, z2⟩ := frc_same (b := 1) (t := 0) fr z01 rfl (by decide) (by decide)
      subst z1 z2
      have u1 := Same.new (.tup [V.int 0, V.int 1]) nt1
      refine deep_sameE (f := (0, 1)) (u1 _ _ er) upd_same ⟨_, rfl, ?_⟩
      rw [if_pos rfl]
      generalize upd H3 t1 (.tup [V.int 0, V.int 1]) = H4
      refine ⟨smallE (by simp), fun b1 nb1 => ⟨smallE (by simp), fun b2 nb2 => ⟨smallE (by simp), fun l2 nl2 => ?_⟩⟩⟩
      have w2 := Same.new (.tup [V.int 0, V.int 1]) nb2
      have w3 := Same.new (.lst [V.ref b1, V.ref b2]) nl2
      refine ⟨l2, true, [b1, b2], [(0, 1), (0, 1)], 90, rfl, upd_same, .cons (w3 _ _ (w2 _ _ upd_same)) (.cons (w3 _ _ upd_same) .nil), fun f hf => ?_, by simp, by decide, by simp, fun p q r H5 fr nr s5 er => ⟨smallE (by simp), fun t2 nt2 => ?_⟩⟩
      · have : f = (0, 1) := by simpa using hf
        rw [this]
        exact ⟨by decide, by decide, by decide⟩
      obtain ⟨z1, z2⟩ := frc_same (b := 1) (t := 0) fr z01 rfl (by decide) (by decide)
      subst z1 z2
      exact deep_sameE (f := (0, 1)) (Same.new _ nt2 _ _ er) upd_same (k _)
end
theorem quiet0 : Quiet CX0 := fun _ _ _ _ _ h => h
theorem all_mk {l : PySem.W.OpenLaw} {w : World} {K : PySem.W.Frag} {h : Heap} {mg : Str → Option Value} {fa : Addr} {f_law_part : Addr} {od_law_part an_law_part : Option Addr} {sl_law_part : Array (Option Value)} {oc_law_part kV_law_part dc_law_part pm_law_part cd_law_part ct_law_part : Value} {f_law_fraction : Addr} {od_law_fraction an_law_fraction : Option Addr} {sl_law_fraction : Array (Option Value)} {oc_law_fraction kV_law_fraction dc_law_fraction pm_law_fraction cd_law_fraction ct_law_fraction : Value} {f_law_take : Addr} {od_law_take an_law_take : Option Addr} {sl_law_take : Array (Option Value)} {oc_law_take kV_law_take dc_law_take pm_law_take cd_law_take ct_law_take : Value} {f_law_drawn : Addr} {od_law_drawn an_law_drawn : Option Addr} {sl_law_drawn : Array (Option Value)} {oc_law_drawn kV_law_drawn dc_law_drawn pm_law_drawn cd_law_drawn ct_law_drawn : Value} {f_law_stir : Addr} {od_law_stir an_law_stir : Option Addr} {sl_law_stir : Array (Option Value)} {oc_law_stir kV_law_stir dc_law_stir pm_law_stir cd_law_stir ct_law_stir : Value} {f_law_whole : Addr} {od_law_whole an_law_whole : Option Addr} {sl_law_whole : Array (Option Value)} {oc_law_whole kV_law_whole dc_law_whole pm_law_whole cd_law_whole ct_law_whole : Value} {f_law_is_fraction : Addr} {od_law_is_fraction an_law_is_fraction : Option Addr} {sl_law_is_fraction : Array (Option Value)} {oc_law_is_fraction kV_law_is_fraction dc_law_is_fraction pm_law_is_fraction cd_law_is_fraction ct_law_is_fraction : Value} {f_less : Addr} {od_less an_less : Option Addr} {sl_less : Array (Option Value)} {oc_less kV_less dc_less pm_less cd_less ct_less : Value} {f_common_divisor : Addr} {od_common_divisor an_common_divisor : Option Addr} {sl_common_divisor : Array (Option Value)} {oc_common_divisor kV_common_divisor dc_common_divisor pm_common_divisor cd_common_divisor ct_common_divisor : Value} {f_fraction : Addr} {od_fraction an_fraction : Option Addr} {sl_fraction : Array (Option Value)} {oc_fraction kV_fraction dc_fraction pm_fraction cd_fraction ct_fraction : Value} {f_sum_up : Addr} {od_sum_up an_sum_up : Option Addr} {sl_sum_up : Array (Option Value)} {oc_sum_up kV_sum_up dc_sum_up pm_sum_up cd_sum_up ct_sum_up : Value} {f_plus : Addr} {od_plus an_plus : Option Addr} {sl_plus : Array (Option Value)} {oc_plus kV_plus dc_plus pm_plus cd_plus ct_plus : Value} {f_minus : Addr} {od_minus an_minus : Option Addr} {sl_minus : Array (Option Value)} {oc_minus kV_minus dc_minus pm_minus cd_minus ct_minus : Value} {f_times : Addr} {od_times an_times : Option Addr} {sl_times : Array (Option Value)} {oc_times kV_times dc_times pm_times cd_times ct_times : Value} {f_law_two_good : Addr} {od_law_two_good an_law_two_good : Option Addr} {sl_law_two_good : Array (Option Value)} {oc_law_two_good kV_law_two_good dc_law_two_good pm_law_two_good cd_law_two_good ct_law_two_good : Value} {f_law : Addr} {od_law an_law : Option Addr} {sl_law : Array (Option Value)} {oc_law kV_law dc_law pm_law cd_law ct_law : Value} (X : K.In h) (G : h.Ns mainGlobals mg) (hfa : mg "law" = some (.ref fa))
    (a_law_part : PySem.W.nsIn K mainGlobals "_law_part" = some (some (.ref f_law_part)))
    (l_law_part : K.lookup f_law_part = some ⟨oc_law_part, od_law_part, .func (PySem.W.fnOf "_law_part" "_law_part" (defArgs s_law_part) (defBody s_law_part) (defScope s_law_part) .none kV_law_part dc_law_part pm_law_part an_law_part cd_law_part ct_law_part), sl_law_part⟩)
    (c_law_part : PySem.W.codeIn K cd_law_part "_law_part" = true)
    (k_law_part : PySem.W.keepIn K (.ref f_law_part) = true)
    (a_law_fraction : PySem.W.nsIn K mainGlobals "_law_fraction" = some (some (.ref f_law_fraction)))
    (l_law_fraction : K.lookup f_law_fraction = some ⟨oc_law_fraction, od_law_fraction, .func (PySem.W.fnOf "_law_fraction" "_law_fraction" (defArgs s_law_fraction) (defBody s_law_fraction) (defScope s_law_fraction) .none kV_law_fraction dc_law_fraction pm_law_fraction an_law_fraction cd_law_fraction ct_law_fraction), sl_law_fraction⟩)
    (c_law_fraction : PySem.W.codeIn K cd_law_fraction "_law_fraction" = true)
    (k_law_fraction : PySem.W.keepIn K (.ref f_law_fraction) = true)
    (a_law_take : PySem.W.nsIn K mainGlobals "_law_take" = some (some (.ref f_law_take)))
    (l_law_take : K.lookup f_law_take = some ⟨oc_law_take, od_law_take, .func (PySem.W.fnOf "_law_take" "_law_take" (defArgs s_law_take) (defBody s_law_take) (defScope s_law_take) .none kV_law_take dc_law_take pm_law_take an_law_take cd_law_take ct_law_take), sl_law_take⟩)
    (c_law_take : PySem.W.codeIn K cd_law_take "_law_take" = true)
    (k_law_take : PySem.W.keepIn K (.ref f_law_take) = true)
    (a_law_drawn : PySem.W.nsIn K mainGlobals "_law_drawn" = some (some (.ref f_law_drawn)))
    (l_law_drawn : K.lookup f_law_drawn = some ⟨oc_law_drawn, od_law_drawn, .func (PySem.W.fnOf "_law_drawn" "_law_drawn" (defArgs s_law_drawn) (defBody s_law_drawn) (defScope s_law_drawn) .none kV_law_drawn dc_law_drawn pm_law_drawn an_law_drawn cd_law_drawn ct_law_drawn), sl_law_drawn⟩)
    (c_law_drawn : PySem.W.codeIn K cd_law_drawn "_law_drawn" = true)
    (k_law_drawn : PySem.W.keepIn K (.ref f_law_drawn) = true)
    (a_law_stir : PySem.W.nsIn K mainGlobals "_law_stir" = some (some (.ref f_law_stir)))
    (l_law_stir : K.lookup f_law_stir = some ⟨oc_law_stir, od_law_stir, .func (PySem.W.fnOf "_law_stir" "_law_stir" (defArgs s_law_stir) (defBody s_law_stir) (defScope s_law_stir) .none kV_law_stir dc_law_stir pm_law_stir an_law_stir cd_law_stir ct_law_stir), sl_law_stir⟩)
    (c_law_stir : PySem.W.codeIn K cd_law_stir "_law_stir" = true)
    (k_law_stir : PySem.W.keepIn K (.ref f_law_stir) = true)
    (a_law_whole : PySem.W.nsIn K mainGlobals "_law_whole" = some (some (.ref f_law_whole)))
    (l_law_whole : K.lookup f_law_whole = some ⟨oc_law_whole, od_law_whole, .func (PySem.W.fnOf "_law_whole" "_law_whole" (defArgs s_law_whole) (defBody s_law_whole) (defScope s_law_whole) .none kV_law_whole dc_law_whole pm_law_whole an_law_whole cd_law_whole ct_law_whole), sl_law_whole⟩)
    (c_law_whole : PySem.W.codeIn K cd_law_whole "_law_whole" = true)
    (k_law_whole : PySem.W.keepIn K (.ref f_law_whole) = true)
    (a_law_is_fraction : PySem.W.nsIn K mainGlobals "_law_is_fraction" = some (some (.ref f_law_is_fraction)))
    (l_law_is_fraction : K.lookup f_law_is_fraction = some ⟨oc_law_is_fraction, od_law_is_fraction, .func (PySem.W.fnOf "_law_is_fraction" "_law_is_fraction" (defArgs s_law_is_fraction) (defBody s_law_is_fraction) (defScope s_law_is_fraction) .none kV_law_is_fraction dc_law_is_fraction pm_law_is_fraction an_law_is_fraction cd_law_is_fraction ct_law_is_fraction), sl_law_is_fraction⟩)
    (c_law_is_fraction : PySem.W.codeIn K cd_law_is_fraction "_law_is_fraction" = true)
    (k_law_is_fraction : PySem.W.keepIn K (.ref f_law_is_fraction) = true)
    (a_less : PySem.W.nsIn K mainGlobals "less" = some (some (.ref f_less)))
    (l_less : K.lookup f_less = some ⟨oc_less, od_less, .func (PySem.W.fnOf "less" "less" (defArgs s_less) (defBody s_less) (defScope s_less) .none kV_less dc_less pm_less an_less cd_less ct_less), sl_less⟩)
    (c_less : PySem.W.codeIn K cd_less "less" = true)
    (k_less : PySem.W.keepIn K (.ref f_less) = true)
    (a_common_divisor : PySem.W.nsIn K mainGlobals "common_divisor" = some (some (.ref f_common_divisor)))
    (l_common_divisor : K.lookup f_common_divisor = some ⟨oc_common_divisor, od_common_divisor, .func (PySem.W.fnOf "common_divisor" "common_divisor" (defArgs s_common_divisor) (defBody s_common_divisor) (defScope s_common_divisor) .none kV_common_divisor dc_common_divisor pm_common_divisor an_common_divisor cd_common_divisor ct_common_divisor), sl_common_divisor⟩)
    (c_common_divisor : PySem.W.codeIn K cd_common_divisor "common_divisor" = true)
    (k_common_divisor : PySem.W.keepIn K (.ref f_common_divisor) = true)
    (a_fraction : PySem.W.nsIn K mainGlobals "fraction" = some (some (.ref f_fraction)))
    (l_fraction : K.lookup f_fraction = some ⟨oc_fraction, od_fraction, .func (PySem.W.fnOf "fraction" "fraction" (defArgs s_fraction) (defBody s_fraction) (defScope s_fraction) .none kV_fraction dc_fraction pm_fraction an_fraction cd_fraction ct_fraction), sl_fraction⟩)
    (c_fraction : PySem.W.codeIn K cd_fraction "fraction" = true)
    (k_fraction : PySem.W.keepIn K (.ref f_fraction) = true)
    (a_sum_up : PySem.W.nsIn K mainGlobals "sum_up" = some (some (.ref f_sum_up)))
    (l_sum_up : K.lookup f_sum_up = some ⟨oc_sum_up, od_sum_up, .func (PySem.W.fnOf "sum_up" "sum_up" (defArgs s_sum_up) (defBody s_sum_up) (defScope s_sum_up) .none kV_sum_up dc_sum_up pm_sum_up an_sum_up cd_sum_up ct_sum_up), sl_sum_up⟩)
    (c_sum_up : PySem.W.codeIn K cd_sum_up "sum_up" = true)
    (k_sum_up : PySem.W.keepIn K (.ref f_sum_up) = true)
    (a_plus : PySem.W.nsIn K mainGlobals "plus" = some (some (.ref f_plus)))
    (l_plus : K.lookup f_plus = some ⟨oc_plus, od_plus, .func (PySem.W.fnOf "plus" "plus" (defArgs s_plus) (defBody s_plus) (defScope s_plus) .none kV_plus dc_plus pm_plus an_plus cd_plus ct_plus), sl_plus⟩)
    (c_plus : PySem.W.codeIn K cd_plus "plus" = true)
    (k_plus : PySem.W.keepIn K (.ref f_plus) = true)
    (a_minus : PySem.W.nsIn K mainGlobals "minus" = some (some (.ref f_minus)))
    (l_minus : K.lookup f_minus = some ⟨oc_minus, od_minus, .func (PySem.W.fnOf "minus" "minus" (defArgs s_minus) (defBody s_minus) (defScope s_minus) .none kV_minus dc_minus pm_minus an_minus cd_minus ct_minus), sl_minus⟩)
    (c_minus : PySem.W.codeIn K cd_minus "minus" = true)
    (k_minus : PySem.W.keepIn K (.ref f_minus) = true)
    (a_times : PySem.W.nsIn K mainGlobals "times" = some (some (.ref f_times)))
    (l_times : K.lookup f_times = some ⟨oc_times, od_times, .func (PySem.W.fnOf "times" "times" (defArgs s_times) (defBody s_times) (defScope s_times) .none kV_times dc_times pm_times an_times cd_times ct_times), sl_times⟩)
    (c_times : PySem.W.codeIn K cd_times "times" = true)
    (k_times : PySem.W.keepIn K (.ref f_times) = true)
    (a_law_two_good : PySem.W.nsIn K mainGlobals "_law_two_good" = some (some (.ref f_law_two_good)))
    (l_law_two_good : K.lookup f_law_two_good = some ⟨oc_law_two_good, od_law_two_good, .func (PySem.W.fnOf "_law_two_good" "_law_two_good" (defArgs s_law_two_good) (defBody s_law_two_good) (defScope s_law_two_good) .none kV_law_two_good dc_law_two_good pm_law_two_good an_law_two_good cd_law_two_good ct_law_two_good), sl_law_two_good⟩)
    (c_law_two_good : PySem.W.codeIn K cd_law_two_good "_law_two_good" = true)
    (k_law_two_good : PySem.W.keepIn K (.ref f_law_two_good) = true)
    (a_law : PySem.W.nsIn K mainGlobals "law" = some (some (.ref f_law)))
    (l_law : K.lookup f_law = some ⟨oc_law, od_law, .func (PySem.W.fnOf "law" "law" (defArgs s_law) (defBody s_law) (defScope s_law) .none kV_law dc_law pm_law an_law cd_law ct_law), sl_law⟩)
    (c_law : PySem.W.codeIn K cd_law "law" = true)
    (k_law : PySem.W.keepIn K (.ref f_law) = true)
    (z_range : PySem.W.nsIn K mainGlobals "range" = some none)
    (z_len : PySem.W.nsIn K mainGlobals "len" = some none)
    (z_isinstance : PySem.W.nsIn K mainGlobals "isinstance" = some none)
    (z_int : PySem.W.nsIn K mainGlobals "int" = some none)
    (z_bool : PySem.W.nsIn K mainGlobals "bool" = some none)
    (z_tuple : PySem.W.nsIn K mainGlobals "tuple" = some none)
    (z_list : PySem.W.nsIn K mainGlobals "list" = some none)
    (z_enumerate : PySem.W.nsIn K mainGlobals "enumerate" = some none)
    (z_sum : PySem.W.nsIn K mainGlobals "sum" = some none)
    (z_abs : PySem.W.nsIn K mainGlobals "abs" = some none) :
    ∃ fd : FuncData, (∀ (s : Shared) (v : Value), BindsTo s fd ⟨[v], []⟩ [("script", v)]) ∧ ∀ base : Heap, K.In base → base.Ns mainGlobals mg → FnOk l.prog w K mg base CX0 7 fa fd ["script"] (spLaw K) := by
  have e := hfa.symm.trans (PySem.W.mg_of X G a_law)
  cases e
  let T : Txt K mg := ⟨PySem.W.mg_none_of X G z_range, PySem.W.mg_none_of X G z_len, PySem.W.mg_none_of X G z_isinstance, PySem.W.mg_none_of X G z_int, PySem.W.mg_none_of X G z_bool, PySem.W.mg_none_of X G z_tuple, PySem.W.mg_none_of X G z_list, PySem.W.mg_none_of X G z_enumerate, PySem.W.mg_none_of X G z_sum, PySem.W.mg_none_of X G z_abs⟩
  have F_law_part := fun_mk (st := s_law_part) l_law_part c_law_part k_law_part
  have b_law_part := F_law_part.binds (ps := ["one", "other"]) fun _ _ _ _ _ _ us hl => by obtain ⟨u0, u1, rfl⟩ := us2 hl; rfl
  have D_law_part : Df K mg "_law_part" s_law_part ["one", "other"] f_law_part _ := ⟨F_law_part, PySem.W.mg_of X G a_law_part, b_law_part⟩
  have F_law_fraction := fun_mk (st := s_law_fraction) l_law_fraction c_law_fraction k_law_fraction
  have b_law_fraction := F_law_fraction.binds (ps := ["top", "bottom"]) fun _ _ _ _ _ _ us hl => by obtain ⟨u0, u1, rfl⟩ := us2 hl; rfl
  have D_law_fraction : Df K mg "_law_fraction" s_law_fraction ["top", "bottom"] f_law_fraction _ := ⟨F_law_fraction, PySem.W.mg_of X G a_law_fraction, b_law_fraction⟩
  have F_law_take := fun_mk (st := s_law_take) l_law_take c_law_take k_law_take
  have b_law_take := F_law_take.binds (ps := ["pot", "n"]) fun _ _ _ _ _ _ us hl => by obtain ⟨u0, u1, rfl⟩ := us2 hl; rfl
  have D_law_take : Df K mg "_law_take" s_law_take ["pot", "n"] f_law_take _ := ⟨F_law_take, PySem.W.mg_of X G a_law_take, b_law_take⟩
  have F_law_drawn := fun_mk (st := s_law_drawn) l_law_drawn c_law_drawn k_law_drawn
  have b_law_drawn := F_law_drawn.binds (ps := ["pot", "great"]) fun _ _ _ _ _ _ us hl => by obtain ⟨u0, u1, rfl⟩ := us2 hl; rfl
  have D_law_drawn : Df K mg "_law_drawn" s_law_drawn ["pot", "great"] f_law_drawn _ := ⟨F_law_drawn, PySem.W.mg_of X G a_law_drawn, b_law_drawn⟩
  have F_law_stir := fun_mk (st := s_law_stir) l_law_stir c_law_stir k_law_stir
  have b_law_stir := F_law_stir.binds (ps := ["cell", "k"]) fun _ _ _ _ _ _ us hl => by obtain ⟨u0, u1, rfl⟩ := us2 hl; rfl
  have D_law_stir : Df K mg "_law_stir" s_law_stir ["cell", "k"] f_law_stir _ := ⟨F_law_stir, PySem.W.mg_of X G a_law_stir, b_law_stir⟩
  have F_law_whole := fun_mk (st := s_law_whole) l_law_whole c_law_whole k_law_whole
  have b_law_whole := F_law_whole.binds (ps := ["found"]) fun _ _ _ _ _ _ us hl => by obtain ⟨u0, rfl⟩ := us1 hl; rfl
  have D_law_whole : Df K mg "_law_whole" s_law_whole ["found"] f_law_whole _ := ⟨F_law_whole, PySem.W.mg_of X G a_law_whole, b_law_whole⟩
  have F_law_is_fraction := fun_mk (st := s_law_is_fraction) l_law_is_fraction c_law_is_fraction k_law_is_fraction
  have b_law_is_fraction := F_law_is_fraction.binds (ps := ["found"]) fun _ _ _ _ _ _ us hl => by obtain ⟨u0, rfl⟩ := us1 hl; rfl
  have D_law_is_fraction : Df K mg "_law_is_fraction" s_law_is_fraction ["found"] f_law_is_fraction _ := ⟨F_law_is_fraction, PySem.W.mg_of X G a_law_is_fraction, b_law_is_fraction⟩
  have F_less := fun_mk (st := s_less) l_less c_less k_less
  have b_less := F_less.binds (ps := ["one", "two"]) fun _ _ _ _ _ _ us hl => by obtain ⟨u0, u1, rfl⟩ := us2 hl; rfl
  have D_less : Df K mg "less" s_less ["one", "two"] f_less _ := ⟨F_less, PySem.W.mg_of X G a_less, b_less⟩
  have F_common_divisor := fun_mk (st := s_common_divisor) l_common_divisor c_common_divisor k_common_divisor
  have b_common_divisor := F_common_divisor.binds (ps := ["one", "two"]) fun _ _ _ _ _ _ us hl => by obtain ⟨u0, u1, rfl⟩ := us2 hl; rfl
  have D_common_divisor : Df K mg "common_divisor" s_common_divisor ["one", "two"] f_common_divisor _ := ⟨F_common_divisor, PySem.W.mg_of X G a_common_divisor, b_common_divisor⟩
  have F_fraction := fun_mk (st := s_fraction) l_fraction c_fraction k_fraction
  have b_fraction := F_fraction.binds (ps := ["top", "bottom"]) fun _ _ _ _ _ _ us hl => by obtain ⟨u0, u1, rfl⟩ := us2 hl; rfl
  have D_fraction : Df K mg "fraction" s_fraction ["top", "bottom"] f_fraction _ := ⟨F_fraction, PySem.W.mg_of X G a_fraction, b_fraction⟩
  have F_sum_up := fun_mk (st := s_sum_up) l_sum_up c_sum_up k_sum_up
  have b_sum_up := F_sum_up.binds (ps := ["some"]) fun _ _ _ _ _ _ us hl => by obtain ⟨u0, rfl⟩ := us1 hl; rfl
  have D_sum_up : Df K mg "sum_up" s_sum_up ["some"] f_sum_up _ := ⟨F_sum_up, PySem.W.mg_of X G a_sum_up, b_sum_up⟩
  have F_plus := fun_mk (st := s_plus) l_plus c_plus k_plus
  have b_plus := F_plus.binds (ps := ["one", "two"]) fun _ _ _ _ _ _ us hl => by obtain ⟨u0, u1, rfl⟩ := us2 hl; rfl
  have D_plus : Df K mg "plus" s_plus ["one", "two"] f_plus _ := ⟨F_plus, PySem.W.mg_of X G a_plus, b_plus⟩
  have F_minus := fun_mk (st := s_minus) l_minus c_minus k_minus
  have b_minus := F_minus.binds (ps := ["one", "two"]) fun _ _ _ _ _ _ us hl => by obtain ⟨u0, u1, rfl⟩ := us2 hl; rfl
  have D_minus : Df K mg "minus" s_minus ["one", "two"] f_minus _ := ⟨F_minus, PySem.W.mg_of X G a_minus, b_minus⟩
  have F_times := fun_mk (st := s_times) l_times c_times k_times
  have b_times := F_times.binds (ps := ["one", "two"]) fun _ _ _ _ _ _ us hl => by obtain ⟨u0, u1, rfl⟩ := us2 hl; rfl
  have D_times : Df K mg "times" s_times ["one", "two"] f_times _ := ⟨F_times, PySem.W.mg_of X G a_times, b_times⟩
  have F_law_two_good := fun_mk (st := s_law_two_good) l_law_two_good c_law_two_good k_law_two_good
  have b_law_two_good := F_law_two_good.binds (ps := ["one", "two"]) fun _ _ _ _ _ _ us hl => by obtain ⟨u0, u1, rfl⟩ := us2 hl; rfl
  have D_law_two_good : Df K mg "_law_two_good" s_law_two_good ["one", "two"] f_law_two_good _ := ⟨F_law_two_good, PySem.W.mg_of X G a_law_two_good, b_law_two_good⟩
  have F_law := fun_mk (st := s_law) l_law c_law k_law
  have b_law := F_law.binds (ps := ["script"]) fun _ _ _ _ _ _ us hl => by obtain ⟨u0, rfl⟩ := us1 hl; rfl
  have D_law : Df K mg "law" s_law ["script"] fa _ := ⟨F_law, PySem.W.mg_of X G a_law, b_law⟩
  refine ⟨PySem.W.fnOf "law" "law" (defArgs s_law) (defBody s_law) (defScope s_law) .none kV_law dc_law pm_law an_law cd_law ct_law, fun s v => .of_eq rfl, fun base _ _ => ?_⟩
  have G_law_part := ok_law_part (P := l.prog) (w := w) (base := base) T quiet0 D_law_part
  have G_law_fraction := ok_law_fraction (P := l.prog) (w := w) (base := base) T quiet0 D_law_fraction D_law_part G_law_part
  have G_law_take := ok_law_take (P := l.prog) (w := w) (base := base) T quiet0 D_law_take
  have G_law_drawn := ok_law_drawn (P := l.prog) (w := w) (base := base) T quiet0 D_law_drawn D_law_fraction G_law_fraction D_law_take G_law_take
  have G_law_stir := ok_law_stir (P := l.prog) (w := w) (base := base) T quiet0 D_law_stir
  have G_law_whole := ok_law_whole (P := l.prog) (w := w) (base := base) T quiet0 D_law_whole
  have G_law_is_fraction := ok_law_is_fraction (P := l.prog) (w := w) (base := base) T quiet0 D_law_is_fraction D_law_part G_law_part D_law_whole G_law_whole
  have G_less := ok_less (P := l.prog) (w := w) (base := base) T quiet0 D_less
  have G_common_divisor := ok_common_divisor (P := l.prog) (w := w) (base := base) T quiet0 D_common_divisor
  have G_fraction := ok_fraction (P := l.prog) (w := w) (base := base) T quiet0 D_fraction D_common_divisor G_common_divisor
  have G_sum_up := ok_sum_up (P := l.prog) (w := w) (base := base) T quiet0 D_sum_up D_common_divisor G_common_divisor D_fraction G_fraction
  have G_plus := ok_plus (P := l.prog) (w := w) (base := base) T quiet0 D_plus D_sum_up G_sum_up
  have G_minus := ok_minus (P := l.prog) (w := w) (base := base) T quiet0 D_minus D_plus G_plus
  have G_times := ok_times (P := l.prog) (w := w) (base := base) T quiet0 D_times D_fraction G_fraction
  have G_law_two_good := ok_law_two_good (P := l.prog) (w := w) (base := base) T quiet0 D_law_two_good D_law_fraction G_law_fraction D_law_is_fraction G_law_is_fraction D_less G_less D_minus G_minus D_plus G_plus D_times G_times
  have G_law := ok_law (P := l.prog) (w := w) (base := base) T quiet0 D_law D_law_drawn G_law_drawn D_law_fraction G_law_fraction D_law_stir G_law_stir D_law_two_good G_law_two_good D_sum_up G_sum_up
  exact G_law
theorem walk {l : PySem.W.OpenLaw} {q : Program} {loose : List Str} {XP : (Str → Option Value) → Heap → Prop} {YP : World → Heap → Prop} {d : DefRec} {K : Params → PySem.W.Frag} (hn : l.most = some 63) (hdf : d.params.defaults = [])
    (hY : ∀ (w : World) (h : Heap), YP w h → (K w.params).In h)
    (F : ∀ (w : World) (mg : Str → Option Value) (fa : Addr) (h : Heap), (K w.params).In h → h.Ns mainGlobals mg → mg d.name = some (.ref fa) →
      ∃ fd : FuncData, (∀ (s : Shared) (u : Value), BindsTo s fd ⟨[u], []⟩ [("script", u)]) ∧ ∀ base : Heap, (K w.params).In base → base.Ns mainGlobals mg → FnOk l.prog w (K w.params) mg base CX0 7 fa fd ["script"] (spLaw (K w.params))) :
    PySem.W.WalkO q loose XP YP l.row.toRowW d [] (fun f vs => PySem.call f vs) :=
  L2.walk_of (n := 63) (k := 7) (x := "script") (CX := fun w => CX0) (sp := fun w => spLaw (K w.params)) hn (by decide) hdf ⟨rfl, by decide, by decide⟩ hY F (fun _ _ a ns hl _ hS => ⟨a, ns, rfl, hS, hl, fun _ => rfl⟩) fun _ _ _ _ _ z => quiet0 _ _ _ _ _ z
end Pk
open PySem PySem.W PyProof.Rows
set_option maxRecDepth 100000 in
set_option maxHeartbeats 0 in
theorem PySem.Challenge.cw_pebbletoll_k50_fractions_reckoned_holds : PySem.Challenge.rw_pebbletoll_k50_fractions_reckoned.Holds := by
  w_on; o_law; k_head; (case hw => w_witness2)
  k_fill
  refine Pk.walk (l := PySem.Challenge.rw_pebbletoll_k50_fractions_reckoned) rfl rfl (fun w h Y => PySem.W.kIn_of Y) ?F
  case F =>
    intro w mg fa h KX G hmg
    refine' Pk.all_mk KX G hmg ?a_law_part ?l_law_part ?c_law_part ?k_law_part ?a_law_fraction ?l_law_fraction ?c_law_fraction ?k_law_fraction ?a_law_take ?l_law_take ?c_law_take ?k_law_take ?a_law_drawn ?l_law_drawn ?c_law_drawn ?k_law_drawn ?a_law_stir ?l_law_stir ?c_law_stir ?k_law_stir ?a_law_whole ?l_law_whole ?c_law_whole ?k_law_whole ?a_law_is_fraction ?l_law_is_fraction ?c_law_is_fraction ?k_law_is_fraction ?a_less ?l_less ?c_less ?k_less ?a_common_divisor ?l_common_divisor ?c_common_divisor ?k_common_divisor ?a_fraction ?l_fraction ?c_fraction ?k_fraction ?a_sum_up ?l_sum_up ?c_sum_up ?k_sum_up ?a_plus ?l_plus ?c_plus ?k_plus ?a_minus ?l_minus ?c_minus ?k_minus ?a_times ?l_times ?c_times ?k_times ?a_law_two_good ?l_law_two_good ?c_law_two_good ?k_law_two_good ?a_law ?l_law ?c_law ?k_law ?z_range ?z_len ?z_isinstance ?z_int ?z_bool ?z_tuple ?z_list ?z_enumerate ?z_sum ?z_abs
    (case a_law_part => k_is)
    (case l_law_part => k_is)
    (case c_law_part => k_is)
    (case k_law_part => k_is)
    (case a_law_fraction => k_is)
    (case l_law_fraction => k_is)
    (case c_law_fraction => k_is)
    (case k_law_fraction => k_is)
    (case a_law_take => k_is)
    (case l_law_take => k_is)
    (case c_law_take => k_is)
    (case k_law_take => k_is)
    (case a_law_drawn => k_is)
    (case l_law_drawn => k_is)
    (case c_law_drawn => k_is)
    (case k_law_drawn => k_is)
    (case a_law_stir => k_is)
    (case l_law_stir => k_is)
    (case c_law_stir => k_is)
    (case k_law_stir => k_is)
    (case a_law_whole => k_is)
    (case l_law_whole => k_is)
    (case c_law_whole => k_is)
    (case k_law_whole => k_is)
    (case a_law_is_fraction => k_is)
    (case l_law_is_fraction => k_is)
    (case c_law_is_fraction => k_is)
    (case k_law_is_fraction => k_is)
    (case a_less => k_is)
    (case l_less => k_is)
    (case c_less => k_is)
    (case k_less => k_is)
    (case a_common_divisor => k_is)
    (case l_common_divisor => k_is)
    (case c_common_divisor => k_is)
    (case k_common_divisor => k_is)
    (case a_fraction => k_is)
    (case l_fraction => k_is)
    (case c_fraction => k_is)
    (case k_fraction => k_is)
    (case a_sum_up => k_is)
    (case l_sum_up => k_is)
    (case c_sum_up => k_is)
    (case k_sum_up => k_is)
    (case a_plus => k_is)
    (case l_plus => k_is)
    (case c_plus => k_is)
    (case k_plus => k_is)
    (case a_minus => k_is)
    (case l_minus => k_is)
    (case c_minus => k_is)
    (case k_minus => k_is)
    (case a_times => k_is)
    (case l_times => k_is)
    (case c_times => k_is)
    (case k_times => k_is)
    (case a_law_two_good => k_is)
    (case l_law_two_good => k_is)
    (case c_law_two_good => k_is)
    (case k_law_two_good => k_is)
    (case a_law => k_is)
    (case l_law => k_is)
    (case c_law => k_is)
    (case k_law => k_is)
    (case z_range => k_is)
    (case z_len => k_is)
    (case z_isinstance => k_is)
    (case z_int => k_is)
    (case z_bool => k_is)
    (case z_tuple => k_is)
    (case z_list => k_is)
    (case z_enumerate => k_is)
    (case z_sum => k_is)
    (case z_abs => k_is)
#print axioms PySem.Challenge.cw_pebbletoll_k50_fractions_reckoned_holds
