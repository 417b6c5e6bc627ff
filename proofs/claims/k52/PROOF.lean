import PyProof.Rows.All
import Wide.All
import OpenK.AllK
import Wide.FinOn
import Lean
import PyProof.EqAt
import PyProof.EqKinds
import PyProof.TupleCall
import PyProof.P3Eq
import PyProof.NeData
import PyProof.FitsBits
import PyProof.ZipIter
import PyProof.TupleIter
import KE.KRevIter
import PyProof.TupleOfGen
import PyProof.ListRange
import KE.KIsAll
import PyProof.ExcArgsOwn
import OpenK.KDescr
import PyProof.StationsW
import PyProof.ExcBaseAll.ValueError
import OpenK.KOwn
import PyProof.RulesAs
import PyProof.RulesDel
import PyProof.Rows.SortWalk
import PyProof.CompUse
import KE.KDictSum
import PyProof.WalkInts
import KE.KSortTup
import PyProof.Rows.TupDisplay
import PySem.Challenge.RW_pebbletoll_k52_even_and_second_shares
set_option Elab.async false
set_option linter.all false
set_option maxRecDepth 100000
namespace L2
open PySem PySem.Spec PyProof.Rows
abbrev Key := Sum Int Str
def keyIs : Key → Value → Bool
  | .inl k, v => Value.isInt k v
  | .inr x, v => Value.isStrOf x v
def keyH (w : World) : Key → Int
  | .inl k => hashInt k
  | .inr x => hashStr w x
theorem keyIs_shape : ∀ {k : Key} {v : Value}, keyIs k v = true → (∃ i t, k = Sum.inl i ∧ v = Value.int i t) ∨ (∃ x t, k = Sum.inr x ∧ v = Value.str x t)
  | .inl i, v, h => by
    obtain ⟨t, e⟩ := Value.isInt_shape (k := i) (v := v) h
    exact .inl ⟨i, t, rfl, e⟩
  | .inr x, v, h => by
    obtain ⟨t, e⟩ := Value.isStrOf_shape (x := x) (v := v) h
    exact .inr ⟨x, t, rfl, e⟩
theorem keyIs_int (i : Int) (t : Tok) : keyIs (.inl i) (.int i t) = true := by simp [keyIs, Value.isInt]
theorem keyIs_str (x : Str) (t : Tok) : keyIs (.inr x) (.str x t) = true := by simp [keyIs, Value.isStrOf]
theorem key_ll (a b : Int) : decide ((Sum.inl a : Key) = Sum.inl b) = (a == b) := by
  by_cases e : a = b
  · subst e; simp
  · have h : ¬ (Sum.inl a : Key) = Sum.inl b := fun q => e (Sum.inl.inj q)
    rw [decide_eq_false h]
    exact (beq_eq_false_iff_ne.mpr e).symm
theorem key_rr (a b : Str) : decide ((Sum.inr a : Key) = Sum.inr b) = decide (a = b) := by
  by_cases e : a = b
  · subst e; simp
  · have h : ¬ (Sum.inr a : Key) = Sum.inr b := fun q => e (Sum.inr.inj q)
    rw [decide_eq_false h, decide_eq_false e]
theorem key_lr (a : Int) (b : Str) : decide ((Sum.inl a : Key) = Sum.inr b) = false := decide_eq_false (fun q => nomatch q)
theorem key_rl (a : Str) (b : Int) : decide ((Sum.inr a : Key) = Sum.inl b) = false := decide_eq_false (fun q => nomatch q)
def mixKind (prog : Program) (w : World) : PySem.KeyKind prog w Key where
  is := keyIs
  hash := keyH w
  inj := fun v a b ha hb => by
    rcases keyIs_shape ha with ⟨i, t, rfl, rfl⟩ | ⟨x, t, rfl, rfl⟩
    · rcases keyIs_shape hb with ⟨j, u, rfl, e⟩ | ⟨y, u, rfl, e⟩
      · injection e with e1 _; rw [e1]
      · exact nomatch e
    · rcases keyIs_shape hb with ⟨j, u, rfl, e⟩ | ⟨y, u, rfl, e⟩
      · exact nomatch e
      · injection e with e1 _; rw [e1]
  byValue := fun k v h => by
    rcases keyIs_shape h with ⟨i, t, rfl, rfl⟩ | ⟨x, t, rfl, rfl⟩ <;> rfl
  pyHash := fun hv h => by
    rcases keyIs_shape hv with ⟨i, t, rfl, rfl⟩ | ⟨x, t, rfl, rfl⟩
    · exact wpAny_pyHash_int h
    · exact wpAny_pyHash_str h
  eqBool := fun hu hv h => by
    rcases keyIs_shape hu with ⟨i, t, rfl, rfl⟩ | ⟨x, t, rfl, rfl⟩
    · rcases keyIs_shape hv with ⟨j, u, rfl, rfl⟩ | ⟨y, u, rfl, rfl⟩
      · rw [key_ll] at h; exact wpAny_eqBool_int h
      · rw [key_lr] at h; exact SeqAt.EqAt.int_str i t y u _ _ _ _ h
    · rcases keyIs_shape hv with ⟨j, u, rfl, rfl⟩ | ⟨y, u, rfl, rfl⟩
      · rw [key_rl] at h; exact SeqAt.EqAt.str_int x t j u _ _ _ _ h
      · rw [key_rr] at h; exact wpAny_eqBool_str h
  «strs» := fun k x t v h => by
    rcases keyIs_shape h with ⟨i, u, rfl, e⟩ | ⟨y, u, rfl, e⟩
    · exact nomatch e
    · injection e with e1 _
      subst e1
      cases v <;> rfl
theorem mixKind_int (prog : Program) (w : World) (i : Int) (t : Tok) : (mixKind prog w).is (.inl i) (.int i t) = true := keyIs_int i t
theorem mixKind_str (prog : Program) (w : World) (x : Str) (t : Tok) : (mixKind prog w).is (.inr x) (.str x t) = true := keyIs_str x t
end L2
namespace L2
open PySem PySem.Spec PyProof.Rows
inductive V where
  | non | bl (b : Bool) | int (i : Int) | str (x : Str) | byt (b : Array UInt8) | flt (b : UInt64) | ref (a : Addr) | ty (n : String)
  deriving DecidableEq
def RelV : V → Value → Prop
  | .non, u => u = Value.none
  | .bl b, u => u = Value.bool b
  | .int i, u => ∃ t, u = Value.int i t
  | .str x, u => ∃ t, u = Value.str x t
  | .byt b, u => ∃ t, u = Value.bytes b t
  | .flt b, u => ∃ t, u = Value.float b t
  | .ref a, u => u = Value.ref a
  | .ty n, u => u = Value.type n
abbrev Vals : List V → List Value → Prop := Paired RelV
theorem Vals.length {xs : List V} {us : List Value} (r : Vals xs us) : xs.length = us.length := Paired.length r
theorem Vals.get : ∀ {xs : List V} {us : List Value} {i : Nat} {x : V}, Vals xs us → xs[i]? = some x → ∃ u, us[i]? = some u ∧ RelV x u
  | _, _, _, _, .nil, e => by simp at e
  | _, _, 0, _, .cons r _, e => by simp at e; subst e; exact ⟨_, rfl, r⟩
  | _, _, i + 1, x, .cons _ t, e => by
    obtain ⟨u, h1, h2⟩ := Vals.get (i := i) (x := x) t (by simpa using e)
    exact ⟨u, by simpa using h1, h2⟩
theorem Vals.set {x : V} {u : Value} (r : RelV x u) : ∀ {xs : List V} {us : List Value} (i : Nat), Vals xs us → Vals (xs.set i x) (us.set i u)
  | _, _, _, .nil => .nil
  | _, _, 0, .cons _ t => .cons r t
  | _, _, i + 1, .cons q t => .cons q (Vals.set r i t)
theorem Vals.append : ∀ {xs ys : List V} {us ws : List Value}, Vals xs us → Vals ys ws → Vals (xs ++ ys) (us ++ ws)
  | _, _, _, _, .nil, s => s
  | _, _, _, _, .cons r t, s => .cons r (Vals.append t s)
theorem Vals.take : ∀ {xs : List V} {us : List Value} (n : Nat), Vals xs us → Vals (xs.take n) (us.take n)
  | _, _, 0, _ => .nil
  | _, _, _ + 1, .nil => .nil
  | _, _, n + 1, .cons r t => .cons r (Vals.take n t)
theorem Vals.drop : ∀ {xs : List V} {us : List Value} (n : Nat), Vals xs us → Vals (xs.drop n) (us.drop n)
  | _, _, 0, r => r
  | _, _, _ + 1, .nil => .nil
  | _, _, n + 1, .cons _ t => Vals.drop n t
def RelO : Option V → Option Value → Prop
  | some v, some u => RelV v u
  | none, none => True
  | _, _ => False
def KV {κ : Type} : List (κ × V) → List (κ × Value) → Prop := Paired fun (p : κ × V) (q : κ × Value) => p.1 = q.1 ∧ RelV p.2 q.2
def kV : Key → V
  | .inl i => .int i
  | .inr x => .str x
inductive HO where
  /-- a list -/
  | lst (xs : List V)
  /-- a tuple (never changes) -/
  | tup (xs : List V)
  /-- a dict whose keys are ints and texts; one whose keys are tuples of ints and texts (the empty one is both) -/
  | dK (kvs : List (Key × V)) | dT (kvs : List (List Key × V))
  /-- a set of ints: its members, its size -/
  | set (S : Int → Bool) (n : Nat)
  /-- an instance of the class at C, its dict at dx, its attributes -/
  | ins (C dx : Addr) (fs : List (Str × V))
  /-- the dict of the instance at x -/
  | own (x : Addr)
  /-- the dict of an exception -/
  | xd (fs : List (Str × V))
  /-- a bound method, f of x -/
  | met (f x : Addr)
  /-- a range object lo, lo + 1, .. below hi -/
  | rng (lo hi : Int)
  /-- a thing that is known to the object (the script; a dict while a loop walks it): read, never written while it is so -/
  | frz (o : Obj) (u : HO)
  /-- a code object's table -/
  | tbl (ps : Array Value)
  /-- any other thing, by what is true of its one object (a def of one's own: SetO a S n := HO.ext fun h => ..) -/
  | ext (φ : Heap → Prop)
abbrev Hp := Addr → Option HO
def upd (H : Hp) (a : Addr) (o : HO) : Hp := fun b => if b = a then some o else H b
theorem upd_same {H : Hp} {a : Addr} {o : HO} : upd H a o a = some o := by unfold upd; rw [if_pos rfl]
theorem upd_ne {H : Hp} {a b : Addr} {o : HO} (h : b ≠ a) : upd H a o b = H b := by unfold upd; rw [if_neg h]
theorem upd_upd {H : Hp} {a : Addr} {o u : HO} : upd (upd H a o) a u = upd H a u := by
  funext b; unfold upd; split <;> rfl
theorem ne_of {H : Hp} {a b : Addr} {o u : HO} (h : H a = some o) (h' : H b = some u) (d : o ≠ u) : a ≠ b := by
  intro e; subst e; rw [h] at h'; exact d (Option.some.inj h')
theorem ne_of_none {H : Hp} {a b : Addr} {o : HO} (h : H a = some o) (h' : H b = none) : a ≠ b := by
  intro e; subst e; rw [h] at h'; cases h'
section
variable (P : Program) (w : World)
def ObjOk (H : Hp) (h : Heap) (a : Addr) : HO → Prop
  | .lst xs => xs.length ≤ sizeLine ∧ ∃ (its : List Value) (n : Nat), Vals xs its ∧ h.get? a = some { cls := .type "list", data := .seq its.toArray n }
  | .tup xs => xs.length ≤ sizeLine ∧ ∃ its : List Value, Vals xs its ∧ IsTup h a its.toArray
  | .dK kvs => kvs.length ≤ sizeLine ∧ (a == sysModules) = false ∧ ∃ vs, KV kvs vs ∧ h.DictOf (mixKind P w) a vs
  | .dT kvs => kvs.length ≤ sizeLine ∧ (a == sysModules) = false ∧ ∃ xs : List (List Key × Addr × Value),
      Paired (fun (p : List Key × V) (q : List Key × Addr × Value) => p.1 = q.1 ∧ H q.2.1 = some (.tup (p.1.map kV)) ∧ RelV p.2 q.2.2) kvs xs ∧
      ∃ o es ep, h.get? a = some o ∧ o.ExactDict ∧ o.data = .dict es ep ∧ es.toList = xs.map (entryOfKey (tupleKind (mixKind P w))) ∧ (xs.map (·.1)).Nodup
  | .set S n => h.SetOf (intKind P w) a S n
  | .ins C dx fs => H dx = some (.own a) ∧ fs.length ≤ 1000 ∧ dx ≠ a ∧ h.get? a = some (PySem.W.instObj C dx) ∧
      ∃ mA, h.Ns1 dx mA ∧ (∀ f, RelO (fs.lookup f) (mA f)) ∧ PySem.Within mA (fs.map (·.1))
  | .own _ => ∃ o, h.get? a = some o
  | .xd fs => ∃ mA, h.Ns1 a mA ∧ ∀ f, RelO (fs.lookup f) (mA f)
  | .rng lo hi => ∃ t u v, h.get? a = some { cls := .type "range", data := .fields #[.int lo t, .int hi u, .int 1 v] }
  | .frz o u => h.get? a = some o ∧ ObjOk H h a u
  | .tbl ps => h.get? a = some { cls := .none, data := .fields ps }
  | .met f x => h.get? a = some (PySem.W.methodObj (.ref f) (.ref x))
  | .ext φ => φ h ∧ (∃ o, h.get? a = some o) ∧ ∀ h1 h2 : Heap, φ h1 → (∀ o, h1.get? a = some o → h2.get? a = some o) → φ h2
def HOk (H : Hp) (h : Heap) : Prop := ∀ a o, H a = some o → ObjOk P w H h a o
end
section
variable {P : Program} {w : World} {H H' : Hp} {h h' : Heap} {a : Addr} {o : HO}
theorem ObjOk.lt (x : ObjOk P w H h a o) : a < h.objs.size := by
  cases o with
  | lst xs => obtain ⟨_, _, _, _, e⟩ := x; exact Heap.lt_size e
  | tup xs => obtain ⟨_, _, _, p⟩ := x; exact p.lt
  | dK kvs => obtain ⟨_, _, _, _, o, _, _, e, _⟩ := x; exact Heap.lt_size e
  | dT kvs => obtain ⟨_, _, _, _, o, _, _, e, _⟩ := x; exact Heap.lt_size e
  | set S n => obtain ⟨o, _, _, _, e, _⟩ := x; exact Heap.lt_size e
  | ins C dx fs => obtain ⟨_, _, _, e, _⟩ := x; exact Heap.lt_size e
  | own y => obtain ⟨_, e⟩ := x; exact Heap.lt_size e
  | xd fs => obtain ⟨_, ⟨_, _, _, e, _⟩, _⟩ := x; exact Heap.lt_size e
  | rng lo hi => obtain ⟨_, _, _, e⟩ := x; exact Heap.lt_size e
  | frz ob u => obtain ⟨e, _⟩ := x; exact Heap.lt_size e
  | tbl ps => exact Heap.lt_size (show h.get? a = some _ from x)
  | met f y => exact Heap.lt_size (show h.get? a = some _ from x)
  | ext φ => obtain ⟨_, ⟨_, e⟩, _⟩ := x; exact Heap.lt_size e
theorem Paired.mapP {α β : Type} {F G : α → β → Prop} : ∀ {l₁ : List α} {l₂ : List β}, Paired F l₁ l₂ → (∀ a b, F a b → G a b) → Paired G l₁ l₂
  | _, _, .nil, _ => .nil
  | _, _, .cons r t, f => .cons (f _ _ r) (Paired.mapP t f)
theorem Paired.imp' {α β : Type} {F G : α → β → Prop} (f : ∀ a b, F a b → G a b) {l₁ : List α} {l₂ : List β} (r : Paired F l₁ l₂) : Paired G l₁ l₂ := Paired.mapP r f
theorem ObjOk.stay (x : ObjOk P w H h a o) (k : ∀ b u, (b = a ∨ H b = some (.own a)) → h.get? b = some u → h'.get? b = some u)
    (ho : ∀ b, H b = some (.own a) → H' b = some (.own a)) (ht : ∀ b xs, H b = some (.tup xs) → H' b = some (.tup xs)) : ObjOk P w H' h' a o := by
  induction o with
  | lst xs => obtain ⟨z, its, n, r, e⟩ := x; exact ⟨z, its, n, r, k _ _ (.inl rfl) e⟩
  | tup xs => obtain ⟨z, its, r, ob, e, c⟩ := x; exact ⟨z, its, r, ob, k _ _ (.inl rfl) e, c⟩
  | dK kvs => obtain ⟨z, y, vs, r, ob, es, ep, e, c⟩ := x; exact ⟨z, y, vs, r, ob, es, ep, k _ _ (.inl rfl) e, c⟩
  | dT kvs =>
    obtain ⟨z, y, xs, r, ob, es, ep, e, c⟩ := x
    exact ⟨z, y, xs, Paired.mapP r fun p q z => ⟨z.1, ht _ _ z.2.1, z.2.2⟩, ob, es, ep, k _ _ (.inl rfl) e, c⟩
  | set S n => obtain ⟨ob, es, ep, t, e, c⟩ := x; exact ⟨ob, es, ep, t, k _ _ (.inl rfl) e, c⟩
  | ins C dx fs =>
    obtain ⟨d, z, ne, e, mA, ⟨od, es, ep, e2, c⟩, r⟩ := x
    exact ⟨ho _ d, z, ne, k _ _ (.inl rfl) e, mA, ⟨od, es, ep, k _ _ (.inr d) e2, c⟩, r⟩
  | own y => obtain ⟨ob, e⟩ := x; exact ⟨ob, k _ _ (.inl rfl) e⟩
  | xd fs => obtain ⟨mA, ⟨od, es, ep, e, c⟩, r⟩ := x; exact ⟨mA, ⟨od, es, ep, k _ _ (.inl rfl) e, c⟩, r⟩
  | rng lo hi => obtain ⟨t, u, v, e⟩ := x; exact ⟨t, u, v, k _ _ (.inl rfl) e⟩
  | frz ob u ih => obtain ⟨e, q⟩ := x; exact ⟨k _ _ (.inl rfl) e, ih q⟩
  | tbl ps =>
    have e : h.get? a = some { cls := .none, data := .fields ps } := x
    show h'.get? a = some { cls := .none, data := .fields ps }
    exact k a _ (.inl rfl) e
  | met f y =>
    have e : h.get? a = some (PySem.W.methodObj (.ref f) (.ref y)) := x
    show h'.get? a = some (PySem.W.methodObj (.ref f) (.ref y))
    exact k a _ (.inl rfl) e
  | ext φ => obtain ⟨p, ⟨o, e⟩, st⟩ := x; exact ⟨st _ _ p fun o q => k _ _ (.inl rfl) q, ⟨o, k _ _ (.inl rfl) e⟩, st⟩
theorem HOk.lt (x : HOk P w H h) (e : H a = some o) : a < h.objs.size := (x a o e).lt
theorem HOk.fresh (x : HOk P w H h) (e : h.objs.size ≤ a) : H a = none := by
  cases q : H a with
  | none => rfl
  | some u => exact absurd (Nat.lt_of_lt_of_le (x.lt q) e) (Nat.lt_irrefl _)
theorem HOk.kept (x : HOk P w H h) (k : ∀ b u, h.get? b = some u → h'.get? b = some u) : HOk P w H h' := fun a o e =>
  (x a o e).stay (fun b u _ q => k b u q) (fun _ q => q) fun _ _ q => q
theorem HOk.laid (x : HOk P w H h) (k : ∀ b u, h.get? b = some u → h'.get? b = some u) (hp : h.objs.size ≤ a) (new : ObjOk P w (upd H a o) h' a o) : HOk P w (upd H a o) h' := fun b u e => by
  have hn := x.fresh hp
  by_cases hb : b = a
  · subst hb; rw [upd_same] at e; cases e; exact new
  · rw [upd_ne hb] at e
    exact (x b u e).stay (fun c v _ q => k c v q) (fun c q => by rw [upd_ne (ne_of_none q hn)]; exact q) fun c xs q => by rw [upd_ne (ne_of_none q hn)]; exact q
end
def Rd (H : Hp) (a : Addr) (u : HO) : Prop := H a = some u ∨ ∃ o, H a = some (.frz o u)
theorem Rd.ok {P : Program} {w : World} {H : Hp} {h : Heap} {a : Addr} {u : HO} (r : Rd H a u) (x : HOk P w H h) : ObjOk P w H h a u := by
  rcases r with r | ⟨o, r⟩
  · exact x a u r
  · obtain ⟨_, q⟩ := x a _ r
    exact q
def Mut : Option HO → Prop
  | some (.lst _) => True
  | some (.dK _) => True
  | some (.dT _) => True
  | some (.set _ _) => True
  | some (.ins _ _ _) => True
  | some (.ext _) => True
  | _ => False
section
variable {P : Program} {w : World} {H : Hp} {h h' : Heap} {x e : Addr} {o' : HO}
theorem HOk.write (ok : HOk P w H h) (mu : Mut (H x)) (he : e = x ∨ H e = some (.own x)) (k : ∀ b u, b ≠ e → h.get? b = some u → h'.get? b = some u) (heo : ∃ u, h'.get? e = some u)
    (new : ObjOk P w (upd H x o') h' x o') : HOk P w (upd H x o') h' := fun b u q => by
  have nown : ∀ c y, H c = some (.own y) → c ≠ x := fun c y r z => by subst z; rw [r] at mu; exact mu
  have ntup : ∀ c xs, H c = some (.tup xs) → c ≠ x := fun c xs r z => by subst z; rw [r] at mu; exact mu
  by_cases hb : b = x
  · subst hb; rw [upd_same] at q; cases q; exact new
  · rw [upd_ne hb] at q
    by_cases hbe : b = e
    · have q' : H b = some (.own x) := by
        rcases he with z | z
        · exact absurd (hbe.trans z) hb
        · rw [hbe]; exact z
      rw [q] at q'; cases q'
      obtain ⟨v, hv⟩ := heo
      exact ⟨v, by rw [hbe]; exact hv⟩
    · refine (ok b u q).stay (fun c v hc r => k c v ?_ r) (fun c r => by rw [upd_ne (nown c b r)]; exact r) fun c xs r => by rw [upd_ne (ntup c xs r)]; exact r
      rcases hc with rfl | hc
      · exact hbe
      · rintro rfl
        rcases he with z | z
        · exact nown c b hc z
        · rw [hc] at z; cases z; exact hb rfl
end
structure Un (fs ex : List Addr) (H H' : Hp) (h h' : Heap) : Prop where
  keep : ∀ b o, h.get? b = some o → H b = none → b ∉ fs → b ∉ ex → h'.get? b = some o
  slot : ∀ b o, h.get? b = some o → H b = none → b ∈ fs → b ∉ ex → ∃ sl, h'.get? b = some { o with slots := sl }
  free : ∀ b o, h.get? b = some o → H b = none → b ∉ ex → H' b = none
  there : ∀ b o, h.get? b = some o → b ∉ ex → ∃ o', h'.get? b = some o'
  tups : ∀ b xs, H b = some (.tup xs) → H' b = some (.tup xs)
  frzs : ∀ b o u, H b = some (.frz o u) → H' b = some (.frz o u)
  tbls : ∀ b ps, H b = some (.tbl ps) → ∃ more, H' b = some (.tbl (ps ++ more))
section
variable {fs fs' ex ex' : List Addr} {H H1 H2 : Hp} {h h1 h2 h' : Heap} {a x e : Addr} {o : HO}
theorem Un.any (u : Un fs ex H H1 h h1) {b : Addr} {ob : Obj} (q : h.get? b = some ob) (n : H b = none) (hx : b ∉ ex) : ∃ sl, h1.get? b = some { ob with slots := sl } := by
  by_cases hb : b ∈ fs
  · exact u.slot b ob q n hb hx
  · exact ⟨ob.slots, u.keep b ob q n hb hx⟩
theorem Un.kept (k : ∀ b u, h.get? b = some u → h'.get? b = some u) : Un fs ex H H h h' :=
  ⟨fun b ob q _ _ _ => k b ob q, fun b ob q _ _ _ => ⟨ob.slots, k b ob q⟩, fun _ _ _ n _ => n, fun b ob q _ => ⟨ob, k b ob q⟩, fun _ _ q => q, fun _ _ _ q => q, fun _ ps q => ⟨#[], by rw [q]; simp⟩⟩
theorem Un.refl : Un fs ex H H h h := Un.kept fun _ _ q => q
theorem Un.laid (k : ∀ b u, h.get? b = some u → h'.get? b = some u) (hp : h.objs.size ≤ a) (hn : H a = none) : Un fs ex H (upd H a o) h h' where
  keep := fun b u q _ _ _ => k b u q
  slot := fun b u q _ _ _ => ⟨u.slots, k b u q⟩
  free := fun b u q n _ => by rw [upd_ne (Nat.ne_of_lt (Nat.lt_of_lt_of_le (Heap.lt_size q) hp))]; exact n
  there := fun b u q _ => ⟨u, k b u q⟩
  tups := fun b xs q => by rw [upd_ne (ne_of_none q hn)]; exact q
  frzs := fun b u xs q => by rw [upd_ne (ne_of_none q hn)]; exact q
  tbls := fun b ps q => ⟨#[], by rw [upd_ne (ne_of_none q hn), q]; simp⟩
theorem Un.write (mu : Mut (H x)) (he : e = x ∨ H e = some (.own x)) (k : ∀ b u, b ≠ e → h.get? b = some u → h'.get? b = some u) (heo : ∃ u, h'.get? e = some u) : Un fs ex H (upd H x o) h h' := by
  have hx : ∀ b, H b = none → b ≠ x := fun b n z => by subst z; rw [n] at mu; exact mu
  have hb : ∀ b, H b = none → b ≠ e := fun b n z => by
    subst z
    rcases he with r | r
    · exact hx b n r
    · rw [n] at r; cases r
  have hm : ∀ b u, H b = some u → ¬ Mut (some u) → b ≠ x := fun b u q nm z => by subst z; rw [q] at mu; exact nm mu
  refine ⟨fun b u q n _ _ => k b u (hb b n) q, fun b u q n _ _ => ⟨u.slots, k b u (hb b n) q⟩, fun b u q n _ => by rw [upd_ne (hx b n)]; exact n, fun b u q _ => ?_,
    fun b xs q => by rw [upd_ne (hm b _ q fun z => z)]; exact q, fun b u xs q => by rw [upd_ne (hm b _ q fun z => z)]; exact q, fun b ps q => ⟨#[], by rw [upd_ne (hm b _ q fun z => z), q]; simp⟩⟩
  by_cases hbe : b = e
  · subst hbe; exact heo
  · exact ⟨u, k b u hbe q⟩
end
def trk (h : Heap) (H : Hp) : List Addr := (List.range h.objs.size).filter fun a => (H a).isSome
def hidT (h : Heap) (H : Hp) : Heap := PySem.W.hideAll h (trk h H)
theorem hidT_size (h : Heap) (H : Hp) : (hidT h H).objs.size = h.objs.size := PySem.W.hideAll_size _ _
theorem hidT_get {h : Heap} {H : Hp} {b : Addr} {o : Obj} (e : h.get? b = some o) (n : H b = none) : (hidT h H).get? b = some o :=
  PySem.W.hideAll_get _ e fun hm => by
    have q : (H b).isSome = true := (List.mem_filter.mp hm).2
    rw [n] at q; simp at q
theorem of_hidT {h : Heap} {H : Hp} {b : Addr} {o : Obj} (e : (hidT h H).get? b = some o) : h.get? b = some o ∧ H b = none := by
  have e' : h.get? b = some o := PySem.W.of_hideAll (trk h H) e
  refine ⟨e', ?_⟩
  cases q : H b with
  | none => rfl
  | some x =>
    have hm : b ∈ trk h H := List.mem_filter.mpr ⟨List.mem_range.mpr (Heap.lt_size e'), by simp [q]⟩
    have z : (hidT h H).get? b = none := PySem.W.hideAll_none (trk h H) hm
    rw [z] at e; cases e
def allNews (g h : Heap) (L : Addr) : List (Addr × Obj) := (List.range h.objs.size).filterMap fun a => if a = L ∨ (g.get? a).isSome = true then none else (h.get? a).map fun o => (a, o)
def rest (g h : Heap) (L d : Addr) : List (Addr × Obj) := (allNews g h L).filter fun p => decide (p.1 ≠ d)
end L2
namespace L2
open PySem PySem.Spec PyProof.Rows
structure Mod (K : PySem.W.Frag) (mg : Str → Option Value) (base : Heap) : Prop where
  kin : K.In base
  glob : base.Ns mainGlobals mg
  blt : ∃ mb, base.Ns builtinsNs mb ∧ ∀ x : Str, x ≠ "__name__" → mb x = bootBuiltins x
  nolimit : base.NoLimit
structure Cx where
  prog : Program
  w : World
  K : PySem.W.Frag
  mg : Str → Option Value
  base : Heap
  A : Around
  N : List Str
  s₀ : Shared
  H₀ : Hp
  env : Env
  outer : List Env
  stack : List Env
  ex : List Addr
  fn : Str → Bool
  calm : Bool
  pn : List (Addr × Obj)
  xe : Value → Shared → Prop
def frs (l : List Env) : List Addr := l.filterMap (·.frame)
abbrev Cx.fs (X : Cx) : List Addr := frs X.outer
def Vis (sc : Scope) (x : Str) : Prop := sc.names.lookup x = some .local ∨ sc.names.lookup x = some .cell ∨ sc.names.lookup x = some .free
def Loc (sc : Scope) (x : Str) : Prop := sc.names.lookup x = some .local ∨ sc.names.lookup x = some .cell
def Look (env : Env) (h : Heap) (m : Str → Option Value) (x : Str) (u : Value) : Prop :=
  (env.kindOf x = some .local ∧ m x = some u) ∨ ((env.kindOf x = some .cell ∨ env.kindOf x = some .free) ∧ ∃ c, env.cells.lookup x = some c ∧ h.IsCell c (some u))
structure Cx.Ok (X : Cx) : Prop where
  mod : Mod X.K X.mg X.base
  kind : X.env.scope.kind = .function
  glob : X.env.globals = mainGlobals
  blt : X.env.builtins = builtinsNs
  above : X.s₀.heap.objs.size ≤ X.env.locals
  inj : ∀ x y c, X.env.cells.lookup x = some c → X.env.cells.lookup y = some c → x = y
  has : ∀ x, (X.env.kindOf x = some .cell ∨ X.env.kindOf x = some .free) → ∃ c, X.env.cells.lookup x = some c
  cab : ∀ x c, X.fn x = true → X.env.cells.lookup x = some c → X.s₀.heap.objs.size ≤ c
  hd : X.calm = true → X.A.handled = none
  frames : X.A.frames = some X.stack
  stk : X.stack = X.outer ∨ (X.stack = X.env :: X.outer ∧ X.env.frame = some X.env.locals)
  exf : ∀ b ∈ X.ex, b ≠ X.env.locals ∧ ∀ x c, X.env.cells.lookup x = some c → c ≠ b
  bs : ∀ b o, X.base.get? b = some o → X.s₀.heap.get? b = some o ∧ X.H₀ b = none
  bsz : X.base.objs.size ≤ X.s₀.heap.objs.size
  noex : ∀ b o, X.base.get? b = some o → b ∉ X.ex
  exfs : ∀ b ∈ X.ex, b ∉ X.fs
  funs : X.s₀.heap.FunFrames X.base X.outer
  frf : ∀ b ∈ X.fs, X.H₀ b = none
structure Inv (X : Cx) (pins : List (Addr × Obj)) (σ : List (Option V)) (H : Hp) (s : Shared) : Prop where
  ok : X.Ok
  os : s.os = X.s₀.os
  bare : AllBare s.gens
  base : Un X.fs X.ex X.H₀ H X.s₀.heap s.heap
  loc : ∃ m, s.heap.Ns X.env.locals m ∧ ∀ (i : Nat) (x : Str) (v : V), X.N[i]? = some x → σ[i]? = some (some v) → Vis X.env.scope x → ∃ u, RelV v u ∧ Look X.env s.heap m x u
  cell : ∀ x c, X.env.cells.lookup x = some c → ∃ v, s.heap.IsCell c v
  free : H X.env.locals = none
  freeC : ∀ x c, X.env.cells.lookup x = some c → H c = none
  pin : ∀ p ∈ X.pn ++ pins, s.heap.get? p.1 = some p.2 ∧ H p.1 = none ∧ p.1 ≠ X.env.locals ∧ p.1 ∉ X.fs ∧ ∀ v, p.2.data ≠ .cell v
  hok : HOk X.prog X.w H s.heap
  len : σ.length = X.N.length
section
variable {X : Cx} {pins : List (Addr × Obj)} {σ : List (Option V)} {H H' : Hp} {s : Shared} {h' : Heap}
theorem Cx.Ok.nofr (ok : X.Ok) {b : Addr} {o : Obj} (e : X.base.get? b = some o) : b ∉ X.fs := fun hb => by
  have := (ok.funs.mem hb).1
  rw [e] at this; cases this
theorem Inv.bs (I : Inv X pins σ H s) : ∀ b o, X.base.get? b = some o → s.heap.get? b = some o ∧ H b = none := fun b o e =>
  ⟨I.base.keep b o (I.ok.bs b o e).1 (I.ok.bs b o e).2 (I.ok.nofr e) (I.ok.noex b o e), I.base.free b o (I.ok.bs b o e).1 (I.ok.bs b o e).2 (I.ok.noex b o e)⟩
theorem Inv.bk (I : Inv X pins σ H s) : ∀ b o, X.base.get? b = some o → s.heap.get? b = some o := fun b o e => (I.bs b o e).1
theorem Inv.mod (I : Inv X pins σ H s) : Mod X.K X.mg X.base := I.ok.mod
theorem Inv.kIn (I : Inv X pins σ H s) : X.K.In s.heap := I.ok.mod.kin.keeps I.bk
theorem Inv.lt (I : Inv X pins σ H s) : X.env.locals < s.heap.objs.size := let ⟨_, hn, _⟩ := I.loc; hn.lt
theorem Inv.sz (I : Inv X pins σ H s) : X.s₀.heap.objs.size ≤ s.heap.objs.size := Nat.le_trans I.ok.above (Nat.le_of_lt I.lt)
theorem Inv.nofs (I : Inv X pins σ H s) {a : Addr} (h : s.heap.objs.size ≤ a) : a ∉ X.fs := fun hb => by
  obtain ⟨_, o, ho, _⟩ := I.ok.funs.mem hb
  exact absurd (Nat.lt_of_lt_of_le (Heap.lt_size ho) (Nat.le_trans I.sz h)) (Nat.lt_irrefl _)
theorem Inv.cne (I : Inv X pins σ H s) : ∀ x c, X.env.cells.lookup x = some c → c ≠ X.env.locals := fun x c e z => by
  obtain ⟨v, o, ho, hd⟩ := I.cell x c e
  obtain ⟨m, ⟨o', es, ep, ho', hd', _⟩, _⟩ := I.loc
  rw [z, ho'] at ho; cases ho; rw [hd'] at hd; cases hd
theorem Inv.funs (I : Inv X pins σ H s) : s.heap.FunFrames X.base X.outer := by
  have all : ∀ (l : List Env), (∀ b ∈ frs l, b ∈ X.fs) → X.s₀.heap.FunFrames X.base l → s.heap.FunFrames X.base l := by
    intro l
    induction l with
    | nil => intro _ _; trivial
    | cons env r ih =>
      intro hs hl
      obtain ⟨hk, ⟨L, o, hf, hn, ho, hd⟩, hr⟩ := hl
      have hL : L ∈ X.fs := hs L (by unfold frs; rw [List.filterMap_cons, hf]; exact List.mem_cons_self)
      obtain ⟨sl, e⟩ := I.base.slot L o ho (I.ok.frf L hL) hL fun z => I.ok.exfs L z hL
      exact ⟨hk, ⟨L, _, hf, hn, e, hd⟩, ih (fun b hb => hs b (by unfold frs; rw [List.filterMap_cons, hf]; exact List.mem_cons_of_mem _ hb)) hr⟩
  exact all X.outer (fun _ hb => hb) I.ok.funs
theorem Inv.stack (I : Inv X pins σ H s) : s.heap.FunFrames X.base X.stack := by
  rcases I.ok.stk with e | ⟨e, hf⟩
  · rw [e]; exact I.funs
  · rw [e]
    obtain ⟨m, hn, _⟩ := I.loc
    refine .cons (by rw [I.ok.kind]; decide) hf hn ?_ I.funs
    exact Heap.get?_none_of_le (Nat.le_trans I.ok.bsz I.ok.above)
theorem Inv.stkSub (I : Inv X pins σ H s) : ∀ b ∈ frs X.stack, b ∈ X.env.locals :: X.fs := fun b hb => by
  rcases I.ok.stk with e | ⟨e, hf⟩
  · rw [e] at hb; exact List.mem_cons_of_mem _ hb
  · rw [e] at hb
    unfold frs at hb
    rw [List.filterMap_cons, hf] at hb
    exact hb
theorem Inv.stkFree (I : Inv X pins σ H s) : ∀ b ∈ frs X.stack, H b = none := fun b hb => by
  rcases List.mem_cons.mp (I.stkSub b hb) with e | hb
  · rw [e]; exact I.free
  · obtain ⟨_, o, ho, _⟩ := I.ok.funs.mem hb
    exact I.base.free b o ho (I.ok.frf b hb) fun z => I.ok.exfs b z hb
theorem Inv.step {g' : Array GenState} {t' : Nat} {d' : Drawn} {ch : List Addr} (I : Inv X pins σ H s)
    (hch : ∀ b ∈ ch, (b ∈ X.ex ∨ X.s₀.heap.objs.size ≤ b) ∧ b ≠ X.env.locals ∧ (∀ x c, X.env.cells.lookup x = some c → c ≠ b) ∧ ∀ p ∈ X.pn ++ pins, p.1 ≠ b)
    (keep : ∀ b o, b ≠ X.env.locals → b ∉ X.fs → b ∉ ch → s.heap.get? b = some o → H b = none → h'.get? b = some o)
    (slot : ∀ b o, b ≠ X.env.locals → b ∈ X.fs → b ∉ ch → s.heap.get? b = some o → H b = none → ∃ sl, h'.get? b = some { o with slots := sl }) (free : ∀ b o, b ∉ ch → s.heap.get? b = some o → H b = none → H' b = none)
    (there : ∀ b o, b ∉ ch → s.heap.get? b = some o → ∃ o', h'.get? b = some o')
    (tups : ∀ b xs, H b = some (.tup xs) → H' b = some (.tup xs)) (frzs : ∀ b o u, H b = some (.frz o u) → H' b = some (.frz o u)) (tbls : ∀ b ps, H b = some (.tbl ps) → ∃ more, H' b = some (.tbl (ps ++ more)))
    (ns : ∀ m, s.heap.Ns X.env.locals m → h'.Ns X.env.locals m) (hok : HOk X.prog X.w H' h') (hg : AllBare g') :
    Inv X pins σ H' { s with heap := h', gens := g', drawn := d', toks := t' } := by
  have neL : ∀ b o, X.s₀.heap.get? b = some o → b ≠ X.env.locals := fun b o e => Nat.ne_of_lt (Nat.lt_of_lt_of_le (Heap.lt_size e) I.ok.above)
  have neC : ∀ b o, X.s₀.heap.get? b = some o → b ∉ X.ex → b ∉ ch := fun b o e hx hb => by
    rcases (hch b hb).1 with z | z
    · exact hx z
    · exact absurd (Nat.lt_of_lt_of_le (Heap.lt_size e) z) (Nat.lt_irrefl _)
  have cellK : ∀ x c, X.env.cells.lookup x = some c → ∀ v, s.heap.IsCell c v → h'.IsCell c v := fun x c e v ⟨o, ho, hd⟩ => by
    have nch : c ∉ ch := fun z => (hch c z).2.2.1 x c e rfl
    by_cases hc : c ∈ X.fs
    · obtain ⟨sl, q⟩ := slot c o (I.cne x c e) hc nch ho (I.freeC x c e)
      exact ⟨_, q, hd⟩
    · exact ⟨o, keep c o (I.cne x c e) hc nch ho (I.freeC x c e), hd⟩
  refine ⟨I.ok, I.os, hg, ⟨fun b o e n hb hx => ?_, fun b o e n hb hx => ?_, fun b o e n hx => ?_, fun b o e hx => ?_, fun b xs e => tups b xs (I.base.tups b xs e), fun b o xs e => frzs b o xs (I.base.frzs b o xs e), fun b ps e => ?_⟩, ?_, fun x c e => ?_, ?_, fun x c e => ?_, fun p hp => ?_, hok, I.len⟩
  · exact keep b o (neL b o e) hb (neC b o e hx) (I.base.keep b o e n hb hx) (I.base.free b o e n hx)
  · obtain ⟨sl, e1⟩ := I.base.slot b o e n hb hx
    obtain ⟨sl', e2⟩ := slot b _ (neL b o e) hb (neC b o e hx) e1 (I.base.free b o e n hx)
    exact ⟨sl', e2⟩
  · obtain ⟨o', e1⟩ := I.base.there b o e hx
    exact free b o' (neC b o e hx) e1 (I.base.free b o e n hx)
  · obtain ⟨o', e1⟩ := I.base.there b o e hx
    exact there b o' (neC b o e hx) e1
  · obtain ⟨m1, e1⟩ := I.base.tbls b ps e
    obtain ⟨m2, e2⟩ := tbls b _ e1
    exact ⟨m1 ++ m2, by rw [e2, Array.append_assoc]⟩
  · obtain ⟨m, hn, hl⟩ := I.loc
    refine ⟨m, ns m hn, fun i x v e1 e2 e3 => ?_⟩
    obtain ⟨u, r, l⟩ := hl i x v e1 e2 e3
    refine ⟨u, r, ?_⟩
    rcases l with l | ⟨k, c, e, z⟩
    · exact .inl l
    · exact .inr ⟨k, c, e, cellK x c e _ z⟩
  · obtain ⟨v, z⟩ := I.cell x c e
    exact ⟨v, cellK x c e v z⟩
  · obtain ⟨m, ⟨o, _, _, ho, _⟩, _⟩ := I.loc
    exact free _ o (fun z => (hch _ z).2.1 rfl) ho I.free
  · obtain ⟨v, o, ho, hd⟩ := I.cell x c e
    exact free c o (fun z => (hch c z).2.2.1 x c e rfl) ho (I.freeC x c e)
  · obtain ⟨e, n, ne, nf, d⟩ := I.pin p hp
    have nch : p.1 ∉ ch := fun z => (hch p.1 z).2.2.2 p hp rfl
    exact ⟨keep p.1 p.2 ne nf nch e n, free p.1 p.2 nch e n, ne, nf, d⟩
theorem Inv.un {t' : Nat} (I : Inv X pins σ H s) (u : Un X.fs [] H H' s.heap h') (hok : HOk X.prog X.w H' h') : Inv X pins σ H' { s with heap := h', toks := t' } := by
  obtain ⟨m, ⟨o, es, ep, ho, r⟩, _⟩ := id I.loc
  obtain ⟨sl, hL⟩ := u.any ho I.free (by simp)
  exact I.step (g' := s.gens) (d' := s.drawn) (ch := []) (fun _ z => nomatch z) (fun b o _ hb _ e n => u.keep b o e n hb (by simp)) (fun b o _ hb _ e n => u.slot b o e n hb (by simp)) (fun b o _ e n => u.free b o e n (by simp)) (fun b o _ e => u.there b o e (by simp)) u.tups u.frzs u.tbls (fun m' hm => by
    obtain ⟨o', es', ep', ho', r'⟩ := hm
    rw [ho] at ho'; cases ho'
    exact ⟨_, es', ep', hL, r'⟩) hok I.bare
theorem Inv.call {g' : Array GenState} {t' : Nat} {d' : Drawn} {ch : List Addr} (I : Inv X pins σ H s) (u : Un (frs X.stack) ch H H' s.heap h') (hok : HOk X.prog X.w H' h') (hg : AllBare g')
    (hch : ∀ b ∈ ch, (b ∈ X.ex ∨ X.s₀.heap.objs.size ≤ b) ∧ b ≠ X.env.locals ∧ (∀ x c, X.env.cells.lookup x = some c → c ≠ b) ∧ ∀ p ∈ X.pn ++ pins, p.1 ≠ b) :
    Inv X pins σ H' { s with heap := h', gens := g', drawn := d', toks := t' } := by
  obtain ⟨m, ⟨o, es, ep, ho, r⟩, _⟩ := id I.loc
  obtain ⟨sl, hL⟩ := u.any ho I.free fun z => (hch _ z).2.1 rfl
  exact I.step (ch := ch) hch (fun b o hL hb hc e n => u.keep b o e n (fun z => (List.mem_cons.mp (I.stkSub b z)).elim hL hb) hc) (fun b o _ _ hc e n => u.any e n hc) (fun b o hc e n => u.free b o e n hc) (fun b o hc e => u.there b o e hc) u.tups u.frzs u.tbls (fun m' hm => by
    obtain ⟨o', es', ep', ho', r'⟩ := hm
    rw [ho] at ho'; cases ho'
    exact ⟨_, es', ep', hL, r'⟩) hok hg
theorem Inv.turned {t' : Nat} {it : Addr} (I : Inv X pins σ H s) (k : ∀ b o, b ≠ it → s.heap.get? b = some o → h'.get? b = some o) (hn : H it = none) (hL : it ≠ X.env.locals)
    (h1 : it ∈ X.ex ∨ X.s₀.heap.objs.size ≤ it) (h2 : ∀ x c, X.env.cells.lookup x = some c → c ≠ it) (h3 : ∀ p ∈ X.pn ++ pins, p.1 ≠ it) : Inv X pins σ H { s with heap := h', toks := t' } := by
  have nit : ∀ b u, H b = some u → b ≠ it := fun b u e z => by rw [z, hn] at e; cases e
  refine I.step (g' := s.gens) (d' := s.drawn) (ch := [it]) (fun b hb => ?_) (fun b o _ _ hc e _ => k b o (fun z => hc (by simp [z])) e) (fun b o _ _ hc e _ => ⟨o.slots, k b o (fun z => hc (by simp [z])) e⟩) (fun _ _ _ _ n => n)
    (fun b o hc e => ⟨o, k b o (fun z => hc (by simp [z])) e⟩) (fun _ _ e => e) (fun _ _ _ e => e) (fun b ps e => ⟨#[], by rw [e]; simp⟩) (fun m hm => ?_) (fun b u e => ?_) I.bare
  · have e : b = it := by simpa using hb
    subst e
    exact ⟨h1, hL, h2, h3⟩
  · obtain ⟨o, es, ep, ho, r⟩ := hm
    exact ⟨o, es, ep, k _ o (Ne.symm hL) ho, r⟩
  · refine (I.hok b u e).stay (fun c v hc q => k c v ?_ q) (fun _ q => q) fun _ _ q => q
    rcases hc with z | z
    · rw [z]; exact nit b u e
    · exact nit c _ z
theorem Inv.tok (I : Inv X pins σ H s) (t : Nat) : Inv X pins σ H { s with toks := t } := I.un (h' := s.heap) (t' := t) Un.refl I.hok
theorem Inv.kept {t' : Nat} (I : Inv X pins σ H s) (k : ∀ b u, s.heap.get? b = some u → h'.get? b = some u) : Inv X pins σ H { s with heap := h', toks := t' } := I.un (Un.kept k) (I.hok.kept k)
theorem Inv.laid {a : Addr} {o : HO} {t' : Nat} (I : Inv X pins σ H s) (k : ∀ b u, s.heap.get? b = some u → h'.get? b = some u) (hp : s.heap.objs.size ≤ a) (new : ObjOk X.prog X.w (upd H a o) h' a o) :
    Inv X pins σ (upd H a o) { s with heap := h', toks := t' } := I.un (Un.laid k hp (I.hok.fresh hp)) (I.hok.laid k hp new)
theorem Inv.write {x e : Addr} {o : HO} {t' : Nat} (I : Inv X pins σ H s) (mu : Mut (H x)) (he : e = x ∨ H e = some (.own x)) (k : ∀ b u, b ≠ e → s.heap.get? b = some u → h'.get? b = some u) (heo : ∃ u, h'.get? e = some u)
    (new : ObjOk X.prog X.w (upd H x o) h' x o) : Inv X pins σ (upd H x o) { s with heap := h', toks := t' } := I.un (Un.write mu he k heo) (I.hok.write mu he k heo new)
theorem Inv.pins_of {pins' : List (Addr × Obj)} (I : Inv X pins σ H s) (h : ∀ p ∈ pins', s.heap.get? p.1 = some p.2 ∧ H p.1 = none ∧ p.1 ≠ X.env.locals ∧ p.1 ∉ X.fs ∧ ∀ v, p.2.data ≠ .cell v) : Inv X pins' σ H s :=
  ⟨I.ok, I.os, I.bare, I.base, I.loc, I.cell, I.free, I.freeC, fun p hp => (List.mem_append.mp hp).elim (fun z => I.pin p (List.mem_append_left _ z)) (h p), I.hok, I.len⟩
theorem nodup_ix {N : List Str} (hN : N.Nodup) {i j : Nat} {x : Str} (a : N[i]? = some x) (b : N[j]? = some x) : i = j := by
  obtain ⟨h1, e1⟩ := List.getElem?_eq_some_iff.mp a
  obtain ⟨h2, e2⟩ := List.getElem?_eq_some_iff.mp b
  exact (List.getElem_inj hN).mp (e1.trans e2.symm)
theorem store_ok2 {M : Model} {A : Around} {E : Value → Shared → Prop} {i : Nat} {x : Str} {v : V} {u : Value} {Q : Unit → Shared → Prop} (I : Inv X pins σ H s) (hN : X.N.Nodup) (hi : X.N[i]? = some x) (hx : Loc X.env.scope x) (r : RelV v u)
    (h : ∀ s', Inv X pins (σ.set i (some v)) H s' → (∃ a, Heap.SameBut a s.heap s'.heap ∧ (a = X.env.locals ∨ X.env.cells.lookup x = some a)) → Q () s') (hf : X.fn x = true ∨ X.env.scope.names.lookup x = some .local := by first | exact .inl rfl | exact .inr rfl | assumption) : wpAny M A (storeName X.env x u) Q E s := by
  obtain ⟨m, hn, hl⟩ := id I.loc
  have hcls : (X.env.scope.kind == .class || (X.env.scope.kind == .module && X.env.locals != X.env.globals)) = false := by rw [I.ok.kind]; rfl
  have hiσ : i < σ.length := by rw [I.len]; exact (List.getElem?_eq_some_iff.mp hi).1
  have cne := I.cne
  have tracked : ∀ {a : Addr} {h' : Heap}, (∃ o, s.heap.get? a = some o ∧ H a = none) → Heap.SameBut a s.heap h' → HOk X.prog X.w H h' := fun {a h'} ha hs b ob e => by
    obtain ⟨_, _, hfree⟩ := ha
    refine (I.hok b ob e).stay (fun c w' hc q => (hs.2 c ?_).trans q) (fun _ q => q) fun _ _ q => q
    rintro rfl
    rcases hc with rfl | hc
    · rw [hfree] at e; cases e
    · rw [hfree] at hc; cases hc
  rcases hx with hk | hk
  · refine wpAny_storeName_local hk hn (fun h' hn' hs => ?_) hcls
    obtain ⟨oL, _, _, hoL, _⟩ := id hn
    refine h _ ⟨I.ok, I.os, I.bare, ⟨fun b o e n hb hx => ?_, fun b o e n hb hx => ?_, I.base.free, fun b o e hx => ?_, I.base.tups, I.base.frzs, I.base.tbls⟩, ⟨_, hn', fun j y v' e1 e2 e3 => ?_⟩, fun y c e => ?_, I.free, I.freeC, fun p hp => ?_, tracked ⟨oL, hoL, I.free⟩ hs, by simpa using I.len⟩ ⟨_, hs, .inl rfl⟩
    · exact (hs.2 b (Nat.ne_of_lt (Nat.lt_of_lt_of_le (Heap.lt_size e) I.ok.above))).trans (I.base.keep b o e n hb hx)
    · obtain ⟨sl, e1⟩ := I.base.slot b o e n hb hx
      exact ⟨sl, (hs.2 b (Nat.ne_of_lt (Nat.lt_of_lt_of_le (Heap.lt_size e) I.ok.above))).trans e1⟩
    · obtain ⟨o', e1⟩ := I.base.there b o e hx
      exact ⟨o', (hs.2 b (Nat.ne_of_lt (Nat.lt_of_lt_of_le (Heap.lt_size e) I.ok.above))).trans e1⟩
    · by_cases hj : j = i
      · subst hj
        rw [hi] at e1; cases e1
        rw [List.getElem?_set_self hiσ] at e2
        cases e2
        exact ⟨u, r, .inl ⟨hk, by simp⟩⟩
      · rw [List.getElem?_set_ne (Ne.symm hj)] at e2
        obtain ⟨u', r', q⟩ := hl j y v' e1 e2 e3
        refine ⟨u', r', ?_⟩
        rcases q with ⟨k, e⟩ | ⟨k, c, e, z⟩
        · refine .inl ⟨k, ?_⟩
          have : y ≠ x := fun e => hj (nodup_ix hN e1 (e ▸ hi))
          simp [this, e]
        · exact .inr ⟨k, c, e, z.sameBut hs (cne y c e)⟩
    · obtain ⟨w', z⟩ := I.cell y c e
      exact ⟨w', z.sameBut hs (cne y c e)⟩
    · obtain ⟨e, n, ne, nf, d⟩ := I.pin p hp
      exact ⟨(hs.2 p.1 ne).trans e, n, ne, nf, d⟩
  · have hfn : X.fn x = true := by
      rcases hf with z | z
      · exact z
      · rw [z] at hk; cases hk
    obtain ⟨c, hc⟩ := I.ok.has x (.inl hk)
    obtain ⟨w', z⟩ := I.cell x c hc
    refine wpAny_storeName_cell I.ok.kind hk hc z (fun h' hc' hs => ?_)
    obtain ⟨oc, hoc, hocd⟩ := id z
    refine h { s with heap := h' } ⟨I.ok, I.os, I.bare, ⟨fun b o e n hb hx => ?_, fun b o e n hb hx => ?_, I.base.free, fun b o e hx => ?_, I.base.tups, I.base.frzs, I.base.tbls⟩, ⟨m, hn.sameBut hs (Ne.symm (cne x c hc)), fun j y v' e1 e2 e3 => ?_⟩, fun y c' e => ?_, I.free, I.freeC, fun p hp => ?_, tracked ⟨oc, hoc, I.freeC x c hc⟩ hs, by simpa using I.len⟩ ⟨c, hs, .inr hc⟩
    · exact (hs.2 b (Nat.ne_of_lt (Nat.lt_of_lt_of_le (Heap.lt_size e) (I.ok.cab x c hfn hc)))).trans (I.base.keep b o e n hb hx)
    · obtain ⟨sl, e1⟩ := I.base.slot b o e n hb hx
      exact ⟨sl, (hs.2 b (Nat.ne_of_lt (Nat.lt_of_lt_of_le (Heap.lt_size e) (I.ok.cab x c hfn hc)))).trans e1⟩
    · obtain ⟨o', e1⟩ := I.base.there b o e hx
      exact ⟨o', (hs.2 b (Nat.ne_of_lt (Nat.lt_of_lt_of_le (Heap.lt_size e) (I.ok.cab x c hfn hc)))).trans e1⟩
    · by_cases hj : j = i
      · subst hj
        rw [hi] at e1; cases e1
        rw [List.getElem?_set_self hiσ] at e2
        cases e2
        exact ⟨u, r, .inr ⟨.inl hk, c, hc, hc'⟩⟩
      · rw [List.getElem?_set_ne (Ne.symm hj)] at e2
        obtain ⟨u', r', q⟩ := hl j y v' e1 e2 e3
        refine ⟨u', r', ?_⟩
        rcases q with q | ⟨k, c', e, z'⟩
        · exact .inl q
        · refine .inr ⟨k, c', e, z'.sameBut hs ?_⟩
          rintro rfl
          exact hj (nodup_ix hN e1 (I.ok.inj _ _ _ e hc ▸ hi))
    · by_cases hcc : c' = c
      · subst hcc; exact ⟨_, hc'⟩
      · obtain ⟨w2, z2⟩ := I.cell y c' e
        exact ⟨w2, z2.sameBut hs hcc⟩
    · obtain ⟨e, n, ne, nf, d⟩ := I.pin p hp
      refine ⟨(hs.2 p.1 ?_).trans e, n, ne, nf, d⟩
      intro q
      rw [q, hoc] at e
      have q' : oc = p.2 := Option.some.inj e
      exact d w' (by rw [← q']; exact hocd)
theorem store_ok {M : Model} {A : Around} {E : Value → Shared → Prop} {i : Nat} {x : Str} {v : V} {u : Value} {Q : Unit → Shared → Prop} (I : Inv X pins σ H s) (hN : X.N.Nodup) (hi : X.N[i]? = some x) (hx : Loc X.env.scope x) (r : RelV v u)
    (h : ∀ s', Inv X pins (σ.set i (some v)) H s' → Q () s') (hf : X.fn x = true ∨ X.env.scope.names.lookup x = some .local := by first | exact .inl rfl | exact .inr rfl | assumption) : wpAny M A (storeName X.env x u) Q E s :=
  store_ok2 I hN hi hx r (fun s' I' _ => h s' I') hf
theorem Inv.call' {s' : Shared} {ch : List Addr} (I : Inv X pins σ H s) (ho : s'.os = s.os) (u : Un (frs X.stack) ch H H' s.heap s'.heap) (hok : HOk X.prog X.w H' s'.heap) (hg : AllBare s'.gens)
    (hch : ∀ b ∈ ch, (b ∈ X.ex ∨ X.s₀.heap.objs.size ≤ b) ∧ b ≠ X.env.locals ∧ (∀ x c, X.env.cells.lookup x = some c → c ≠ b) ∧ ∀ p ∈ X.pn ++ pins, p.1 ≠ b) : Inv X pins σ H' s' := by
  obtain ⟨h', g', d', t', o'⟩ := s'
  have e : o' = s.os := ho
  subst e
  exact I.call (g' := g') (t' := t') (d' := d') u hok hg hch
end
abbrev XK := Value → Option Addr → Hp → Prop
abbrev St := List (Option V)
abbrev VK := V → Hp → Prop
abbrev TE := St → Hp → VK → Prop
abbrev TT := St → Hp → (Bool → Hp → Prop) → Prop
abbrev TA := St → Hp → (List V → Hp → Prop) → Prop
structure Ends where
  nx : St → Hp → Prop
  rt : VK
  bk : St → Hp → Prop := fun _ _ => False
  ct : St → Hp → Prop := fun _ _ => False
abbrev TS := Ends → St → Hp → Prop
def EP (X : Cx) (pins : List (Addr × Obj)) (σ : St) (Q : VK) (u : Value) (s' : Shared) : Prop := ∃ v H', Inv X pins σ H' s' ∧ RelV v u ∧ Q v H'
def TP (X : Cx) (pins : List (Addr × Obj)) (σ : St) (Q : Bool → Hp → Prop) (b : Bool) (s' : Shared) : Prop := ∃ H', Inv X pins σ H' s' ∧ Q b H'
def AP (X : Cx) (pins : List (Addr × Obj)) (σ : St) (Q : List V → Hp → Prop) (us : List Value) (s' : Shared) : Prop := ∃ vs H', Inv X pins σ H' s' ∧ Vals vs us ∧ Q vs H'
def SP (X : Cx) (pins : List (Addr × Obj)) (D : Ends) (f : Flow) (s' : Shared) : Prop :=
  match f with
  | .next => ∃ σ' H', Inv X pins σ' H' s' ∧ D.nx σ' H'
  | .brk => ∃ σ' H', Inv X pins σ' H' s' ∧ D.bk σ' H'
  | .cont => ∃ σ' H', Inv X pins σ' H' s' ∧ D.ct σ' H'
  | .ret u => ∃ v σ' H', Inv X pins σ' H' s' ∧ RelV v u ∧ D.rt v H'
def PE (X : Cx) (e : Expr) (t : TE) : Prop :=
  ∀ (pins : List (Addr × Obj)) (s : Shared) (σ : St) (H : Hp) (Q : VK), Inv X pins σ H s → t σ H Q → wpAny (model X.prog X.w) X.A (eval e X.env) (EP X pins σ Q) X.xe s
def PT (X : Cx) (e : Expr) (t : TT) : Prop :=
  ∀ (pins : List (Addr × Obj)) (s : Shared) (σ : St) (H : Hp) (Q : Bool → Hp → Prop), Inv X pins σ H s → t σ H Q → wpAny (model X.prog X.w) X.A (isTrue e X.env (eval e X.env)) (TP X pins σ Q) X.xe s
def PW (X : Cx) (e : Expr) (t : TT) : Prop :=
  ∀ (whole : Sem Value) (pins : List (Addr × Obj)) (s : Shared) (σ : St) (H : Hp) (Q : Bool → Hp → Prop), Inv X pins σ H s → t σ H Q → wpAny (model X.prog X.w) X.A (isTrue e X.env whole) (TP X pins σ Q) X.xe s
theorem PW.pt {X : Cx} {e : Expr} {t : TT} (h : PW X e t) : PT X e t := h _
def PA (X : Cx) (es : List Expr) (t : TA) : Prop :=
  ∀ (pos : Pos) (pins : List (Addr × Obj)) (s : Shared) (σ : St) (H : Hp) (Q : List V → Hp → Prop), Inv X pins σ H s → t σ H Q → wpAny (model X.prog X.w) X.A (spliced (backTo pos (starEach es X.env))) (AP X pins σ Q) X.xe s
def PS (X : Cx) (st : Stmt) (t : TS) : Prop :=
  ∀ (pins : List (Addr × Obj)) (s : Shared) (σ : St) (H : Hp) (D : Ends), Inv X pins σ H s → t D σ H → wpAny (model X.prog X.w) X.A (exec st X.env) (SP X pins D) X.xe s
def PSs (X : Cx) (st : List Stmt) (t : TS) : Prop :=
  ∀ (pins : List (Addr × Obj)) (s : Shared) (σ : St) (H : Hp) (D : Ends), Inv X pins σ H s → t D σ H → wpAny (model X.prog X.w) X.A (execs st X.env) (SP X pins D) X.xe s
theorem thn {α : Type} {t : Sem α} {Q Q' : α → Shared → Prop} {M : Model} {A : Around} {E : Value → Shared → Prop} {s : Shared} (h : wpAny M A t Q E s) (hQ : ∀ a s, Q a s → Q' a s) : wpAny M A t Q' E s := wpAny_mono h hQ fun _ _ x => x
theorem thnE {t : Sem Value} {X : Cx} {pins : List (Addr × Obj)} {σ : St} {Q : VK} {Q' : Value → Shared → Prop} {M : Model} {A : Around} {E : Value → Shared → Prop} {s : Shared} (h : wpAny M A t (EP X pins σ Q) E s) (hQ : ∀ u s v H, Inv X pins σ H s → RelV v u → Q v H → Q' u s) : wpAny M A t Q' E s := thn h fun u s ⟨v, H, I, r, q⟩ => hQ u s v H I r q
theorem thnA {t : Sem (List Value)} {X : Cx} {pins : List (Addr × Obj)} {σ : St} {Q : List V → Hp → Prop} {Q' : List Value → Shared → Prop} {M : Model} {A : Around} {E : Value → Shared → Prop} {s : Shared} (h : wpAny M A t (AP X pins σ Q) E s) (hQ : ∀ u s v H, Inv X pins σ H s → Vals v u → Q v H → Q' u s) : wpAny M A t Q' E s := thn h fun u s ⟨v, H, I, r, q⟩ => hQ u s v H I r q
theorem thnT {t : Sem Bool} {X : Cx} {pins : List (Addr × Obj)} {σ : St} {Q : Bool → Hp → Prop} {Q' : Bool → Shared → Prop} {M : Model} {A : Around} {E : Value → Shared → Prop} {s : Shared} (h : wpAny M A t (TP X pins σ Q) E s) (hQ : ∀ u s H, Inv X pins σ H s → Q u H → Q' u s) : wpAny M A t Q' E s := thn h fun u s ⟨H, I, q⟩ => hQ u s H I q
end L2
namespace L2
open PySem PySem.Spec PyProof.Rows
section
variable {X : Cx}
def tVar (i : Nat) : TE := fun σ H Q => ∃ v, σ[i]? = some (some v) ∧ Q v H
def tC (v : V) : TE := fun _ H Q => Q v H
theorem pe_var {i : Nat} {x : Str} {pos : Pos} (hN : X.N[i]? = some x) (hv : Vis X.env.scope x) (hd : (x == ("__debug__" : Str)) = false := by decide) (hcd : (x == ("__classdict__" : Str)) = false := by decide) : PE X (.Name x pos) (tVar i) := by
  intro pins s σ H Q I h
  obtain ⟨v, e, h⟩ := h
  obtain ⟨m, hn, hl⟩ := I.loc
  obtain ⟨u, r, l⟩ := hl i x v hN e hv
  have fin : EP X pins σ Q u s := ⟨v, H, I, r, h⟩
  rcases l with ⟨hk, hm⟩ | ⟨hk, c, hc, hcell⟩
  · exact wpAny_Name (wpAny_loadName_local I.ok.kind hk hn hm fin) hd
  · rcases hk with hk | hk
    · exact wpAny_Name (wpAny_loadName_cell I.ok.kind hk hc hcell fin) hd
    · exact wpAny_Name (wpAny_loadName_free I.ok.kind hk hc hcell fin hcd) hd
theorem pe_int {i j pos} : PE X (.Constant (.int i) j pos) (tC (.int i)) := fun _ _ _ H _ I h => wpAny_Constant_int ⟨.int i, H, I.tok _, ⟨_, rfl⟩, h⟩
theorem pe_bl {b j pos} : PE X (.Constant (.bool b) j pos) (tC (.bl b)) := fun _ _ _ H _ I h => Constant_bool ⟨.bl b, H, I, rfl, h⟩
theorem pe_str {x j pos} : PE X (.Constant (.str x) j pos) (tC (.str x)) := fun _ _ _ H _ I h => Calls.Constant_str ⟨.str x, H, I.tok _, ⟨_, rfl⟩, h⟩
def Gl (X : Cx) (x : Str) : Prop := X.env.kindOf x = some .globalImplicit
theorem ld_glob {E : Value → Shared → Prop} {pins : List (Addr × Obj)} {s : Shared} {σ : St} {H : Hp} {x : Str} {u : Value} {pos : Pos} {Q : Value → Shared → Prop} (I : Inv X pins σ H s) (hg : Gl X x) (hm : X.mg x = some u) (h : Q u s)
    (hd : (x == ("__debug__" : Str)) = false := by decide) : wpAny (model X.prog X.w) X.A (eval (.Name x pos) X.env) Q E s :=
  Calls.Name_function_global I.ok.kind hg (Calls.loadGlobal_global (by rw [I.ok.glob]; exact I.mod.glob.keeps I.bk) hm h) hd
theorem ld_blt {E : Value → Shared → Prop} {pins : List (Addr × Obj)} {s : Shared} {σ : St} {H : Hp} {x : Str} {u : Value} {pos : Pos} {Q : Value → Shared → Prop} (I : Inv X pins σ H s) (hg : Gl X x) (hm : X.mg x = none) (hv : bootBuiltins x = some u) (h : Q u s)
    (hn : x ≠ "__name__" := by decide) (hd : (x == ("__debug__" : Str)) = false := by decide) : wpAny (model X.prog X.w) X.A (eval (.Name x pos) X.env) Q E s := by
  obtain ⟨mb, h1, h2⟩ := I.mod.blt
  exact Calls.Name_function_global I.ok.kind hg (Calls.loadGlobal_builtin (by rw [I.ok.glob]; exact I.mod.glob.keeps I.bk) hm (by rw [I.ok.blt]; exact h1.keeps I.bk) ((h2 x hn).trans hv) h) hd
theorem pe_glob {x : Str} {v : V} {u : Value} {pos : Pos} (hg : Gl X x) (hm : X.mg x = some u) (r : RelV v u) (hd : (x == ("__debug__" : Str)) = false := by decide) : PE X (.Name x pos) (tC v) :=
  fun _ _ _ H _ I h => ld_glob I hg hm ⟨v, H, I, r, h⟩ hd
theorem pe_bltn {x : Str} {v : V} {u : Value} {pos : Pos} (hg : Gl X x) (hm : X.mg x = none) (hv : bootBuiltins x = some u) (r : RelV v u) (hn : x ≠ "__name__" := by decide) (hd : (x == ("__debug__" : Str)) = false := by decide) : PE X (.Name x pos) (tC v) :=
  fun _ _ _ H _ I h => ld_blt I hg hm hv ⟨v, H, I, r, h⟩ hn hd
variable {a b : Expr} {ta tb : TE} {pos : Pos}
def PC (X : Cx) (op : CmpOp) (a b : Expr) (t : TE) : Prop :=
  ∀ (pins : List (Addr × Obj)) (s : Shared) (σ : St) (H : Hp) (Q : VK), Inv X pins σ H s → t σ H Q →
    wpAny (model X.prog X.w) X.A (eval a X.env) (fun v s₁ => wpAny (model X.prog X.w) X.A (eval b X.env) (fun u s₂ => wpAny (model X.prog X.w) X.A (compareOp op v u) (EP X pins σ Q) X.xe s₂) X.xe s₁) X.xe s
def tIsN (ta : TE) : TE := fun σ H Q => ta σ H fun x H1 => Q (.bl (decide (x = .non))) H1
def tNotN (ta : TE) : TE := fun σ H Q => ta σ H fun x H1 => Q (.bl (!decide (x = .non))) H1
def tB (t : TE) : TT := fun σ H Q => t σ H fun x H1 => ∃ c, x = .bl c ∧ Q c H1
theorem pt_cmp {op : CmpOp} {t : TE} (h : PC X op a b t) (h1 : behindInMarks op b = false := by first | exact nobehind _ (by decide) (by decide) | rfl) : PT X (.Compare a [op] [b] pos) (tB t) := by
  intro pins s σ H Q I hw
  refine wpAny_isTrue_Compare1 (thn (h pins s σ H _ I hw) fun v s1 h1 => thn h1 fun u s2 h2 => thn h2 fun c s3 ⟨x, H1, I1, r1, q1⟩ => ?_) h1
  obtain ⟨d, rfl, q⟩ := q1
  cases r1
  exact wpAny_truthy_bool ⟨H1, I1, q⟩
theorem pt_val {e : Expr} {t : TE} (h : PE X e t) (he : ∀ whole, isTrue e X.env whole = (do let v ← whole; standAt e.pos; holding [v] (truthy v)) := by intro _; rfl) : PT X e (tB t) := by
  intro pins s σ H Q I hw
  refine isTrue_plain (thnE (h pins s σ H _ I hw) fun v s1 x H1 I1 r1 q1 => ?_) (he _)
  obtain ⟨d, rfl, q⟩ := q1
  cases r1
  exact wpAny_truthy_bool ⟨H1, I1, q⟩
variable {tA tB' : TT} {rest : List Expr}
def tAnd (t u : TT) : TT := fun σ H Q => t σ H fun c H1 => if c = true then u σ H1 Q else Q false H1
def tOr (t u : TT) : TT := fun σ H Q => t σ H fun c H1 => if c = true then Q true H1 else u σ H1 Q
def tNot (t : TT) : TT := fun σ H Q => t σ H fun c H1 => Q (!c) H1
theorem pw_and1 (ha : PT X a tA) : PW X (.BoolOp .And [a] pos) tA := by
  intro wh pins s σ H Q I h
  refine isTrue_and (thn (ha pins s σ H Q I h) fun c s1 e => ?_)
  cases c with
  | true => exact isTrue_and_nil e
  | false => exact e
theorem pw_or1 (ha : PT X a tA) : PW X (.BoolOp .Or [a] pos) tA := by
  intro wh pins s σ H Q I h
  refine isTrue_or (thn (ha pins s σ H Q I h) fun c s1 e => ?_)
  cases c with
  | false => exact isTrue_or_nil e
  | true => exact e
theorem pw_and (ha : PT X a tA) (hb : PW X (.BoolOp .And (b :: rest) pos) tB') : PW X (.BoolOp .And (a :: b :: rest) pos) (tAnd tA tB') := by
  intro wh pins s σ H Q I h
  refine isTrue_and (thnT (ha pins s σ H _ I h) fun c s1 H1 I1 q1 => ?_)
  cases c with
  | true => exact hb wh pins s1 σ H1 Q I1 q1
  | false => exact ⟨H1, I1, q1⟩
theorem pw_or (ha : PT X a tA) (hb : PW X (.BoolOp .Or (b :: rest) pos) tB') : PW X (.BoolOp .Or (a :: b :: rest) pos) (tOr tA tB') := by
  intro wh pins s σ H Q I h
  refine isTrue_or (thnT (ha pins s σ H _ I h) fun c s1 H1 I1 q1 => ?_)
  cases c with
  | true => exact ⟨H1, I1, q1⟩
  | false => exact hb wh pins s1 σ H1 Q I1 q1
theorem pt_not (ha : PT X a tA) : PT X (.UnaryOp .Not a pos) (tNot tA) := by
  intro pins s σ H Q I h
  exact isTrue_not (ha pins s σ H (fun c H1 => Q (!c) H1) I h)
def tAndV (ta tb : TE) : TE := fun σ H Q => ta σ H fun x H1 => ∃ c, x = .bl c ∧ if c = true then tb σ H1 Q else Q (.bl false) H1
def tOrV (ta tb : TE) : TE := fun σ H Q => ta σ H fun x H1 => ∃ c, x = .bl c ∧ if c = true then Q (.bl true) H1 else tb σ H1 Q
def tNotV (ta : TE) : TE := fun σ H Q => ta σ H fun x H1 => ∃ c, x = .bl c ∧ Q (.bl (!c)) H1
theorem pe_one {op} {t : TE} (h : PE X a t) : PE X (.BoolOp op [a] pos) t := fun pins s σ H Q I hw => BoolOp_one (h pins s σ H Q I hw)
theorem pe_and (ha : PE X a ta) (hb : PE X (.BoolOp .And (b :: rest) pos) tb) : PE X (.BoolOp .And (a :: b :: rest) pos) (tAndV ta tb) := by
  intro pins s σ H Q I h
  refine BoolOp_and (thnE (ha pins s σ H _ I h) fun v s1 x H1 I1 r1 q1 => ?_)
  obtain ⟨c, rfl, q1⟩ := q1
  cases r1
  refine wpAny_truthy_bool ?_
  cases c with
  | true => exact hb pins s1 σ H1 Q I1 q1
  | false => exact ⟨.bl false, H1, I1, rfl, q1⟩
theorem pe_not (ha : PE X a ta) : PE X (.UnaryOp .Not a pos) (tNotV ta) := by
  intro pins s σ H Q I h
  refine UnaryOp_ (thnE (ha pins s σ H _ I h) fun v s1 x H1 I1 r1 q1 => ?_)
  obtain ⟨c, rfl, q1⟩ := q1
  cases r1
  exact not_of (wpAny_truthy_bool ⟨.bl (!c), H1, I1, rfl, q1⟩)
def tIf (t : TT) (ta tb : TE) : TE := fun σ H Q => t σ H fun c H1 => if c = true then ta σ H1 Q else tb σ H1 Q
end
end L2
namespace L2
open PySem PySem.Spec PyProof.Rows
def SqL (K : PySem.W.Frag) (H : Hp) (a : Addr) (xs : List V) : Prop :=
  Rd H a (.lst xs) ∨
    ∃ (o : Obj) (its : Array Value) (n : Nat), K.lookup a = some o ∧ o.cls = .type "list" ∧ o.dict = none ∧ o.data = .seq its n ∧ its.size ≤ sizeLine ∧ Vals xs its.toList
def SqT (K : PySem.W.Frag) (H : Hp) (a : Addr) (xs : List V) : Prop :=
  Rd H a (.tup xs) ∨
    ∃ (o : Obj) (its : Array Value) (n : Nat), K.lookup a = some o ∧ o.cls = .type "tuple" ∧ o.data = .seq its n ∧ its.size ≤ sizeLine ∧ Vals xs its.toList
def absV : Value → Option V
  | .none => some .non
  | .bool b => some (.bl b)
  | .int i _ => some (.int i)
  | .str x _ => some (.str x)
  | .bytes b _ => some (.byt b)
  | .float b _ => some (.flt b)
  | .ref a => some (.ref a)
  | .type n => some (.ty n)
  | _ => none
theorem RelV.abs {x : V} {u : Value} (r : RelV x u) : absV u = some x := by
  cases x with
  | non => cases r; rfl
  | bl _ => cases r; rfl
  | int _ => obtain ⟨t, rfl⟩ := r; rfl
  | str _ => obtain ⟨t, rfl⟩ := r; rfl
  | byt _ => obtain ⟨t, rfl⟩ := r; rfl
  | flt _ => obtain ⟨t, rfl⟩ := r; rfl
  | ref _ => cases r; rfl
  | ty _ => cases r; rfl
theorem RelV.inj {x y : V} {u : Value} (r : RelV x u) (q : RelV y u) : x = y := Option.some.inj (r.abs.symm.trans q.abs)
theorem Vals.inj {xs ys : List V} {us : List Value} (h : Vals xs us) (h2 : Vals ys us) : xs = ys := by
  induction h generalizing ys with
  | nil => cases h2; rfl
  | cons r _ ih => cases h2 with | cons r2 t2 => rw [r.inj r2, ih t2]
section
variable {X : Cx} {pins : List (Addr × Obj)} {σ : St} {H : Hp} {s : Shared} {a : Addr} {xs ys : List V}
theorem SqL.of {K : PySem.W.Frag} (h : H a = some (.lst xs)) : SqL K H a xs := .inl (.inl h)
theorem SqT.of {K : PySem.W.Frag} (h : H a = some (.tup xs)) : SqT K H a xs := .inl (.inl h)
theorem Inv.list (I : Inv X pins σ H s) (h : SqL X.K H a xs) : ∃ its : List Value, Vals xs its ∧ PlainL s.heap a its.toArray ∧ xs.length ≤ sizeLine := by
  rcases h with h | ⟨o, its, n, hk, hc, hd, hs, hz, r⟩
  · obtain ⟨z, its, n, r, e⟩ := h.ok I.hok
    exact ⟨its, r, ⟨_, n, e, rfl, rfl, rfl⟩, z⟩
  · refine ⟨its.toList, r, ⟨o, n, I.kIn a o hk, hc, hd, by simpa using hs⟩, ?_⟩
    have e := r.length
    simp only [Array.length_toList] at e
    omega
theorem Inv.tuple (I : Inv X pins σ H s) (h : SqT X.K H a xs) : ∃ its : List Value, Vals xs its ∧ IsTup s.heap a its.toArray ∧ xs.length ≤ sizeLine := by
  rcases h with h | ⟨o, its, n, hk, hc, hs, hz, r⟩
  · obtain ⟨z, its, r, p⟩ := h.ok I.hok
    exact ⟨its, r, p, z⟩
  · refine ⟨its.toList, r, ⟨o, I.kIn a o hk, hc, n, by simpa using hs⟩, ?_⟩
    have e := r.length
    simp only [Array.length_toList] at e
    omega
theorem Inv.list_inj (I : Inv X pins σ H s) (h : SqL X.K H a xs) (h' : SqL X.K H a ys) : xs = ys := by
  obtain ⟨its, r, ⟨o, n, e, _, _, d⟩, _⟩ := I.list h
  obtain ⟨its', r', ⟨o', n', e', _, _, d'⟩, _⟩ := I.list h'
  rw [e] at e'; cases e'
  rw [d] at d'
  injection d' with d1 _
  have : its = its' := by simpa using congrArg Array.toList d1
  subst this
  exact r.inj r'
theorem Inv.tuple_inj (I : Inv X pins σ H s) (h : SqT X.K H a xs) (h' : SqT X.K H a ys) : xs = ys := by
  obtain ⟨its, r, ⟨o, e, _, n, d⟩, _⟩ := I.tuple h
  obtain ⟨its', r', ⟨o', e', _, n', d'⟩, _⟩ := I.tuple h'
  rw [e] at e'; cases e'
  rw [d] at d'
  injection d' with d1 _
  have : its = its' := by simpa using congrArg Array.toList d1
  subst this
  exact r.inj r'
end
abbrev Cx.wish (X : Cx) (E : Value → Shared → Prop) : Cx := { X with xe := E }
abbrev Cx.nox (X : Cx) : Cx := X.wish fun _ _ => False
theorem Cx.Ok.wish {X : Cx} (ok : X.Ok) (E : Value → Shared → Prop) : (X.wish E).Ok :=
  ⟨ok.mod, ok.kind, ok.glob, ok.blt, ok.above, ok.inj, ok.has, ok.cab, ok.hd, ok.frames, ok.stk, ok.exf, ok.bs, ok.bsz, ok.noex, ok.exfs, ok.funs, ok.frf⟩
theorem Cx.Ok.unwish {X : Cx} {E : Value → Shared → Prop} (ok : (X.wish E).Ok) : X.Ok :=
  ⟨ok.mod, ok.kind, ok.glob, ok.blt, ok.above, ok.inj, ok.has, ok.cab, ok.hd, ok.frames, ok.stk, ok.exf, ok.bs, ok.bsz, ok.noex, ok.exfs, ok.funs, ok.frf⟩
section
variable {X : Cx} {pins : List (Addr × Obj)} {σ : St} {H : Hp} {s : Shared} {E : Value → Shared → Prop}
theorem Inv.wish (I : Inv X pins σ H s) (E : Value → Shared → Prop) : Inv (X.wish E) pins σ H s := ⟨I.ok.wish E, I.os, I.bare, I.base, I.loc, I.cell, I.free, I.freeC, I.pin, I.hok, I.len⟩
theorem Inv.unwish (I : Inv (X.wish E) pins σ H s) : Inv X pins σ H s := ⟨I.ok.unwish, I.os, I.bare, I.base, I.loc, I.cell, I.free, I.freeC, I.pin, I.hok, I.len⟩
theorem SP.unwish {D : Ends} {f : Flow} {s' : Shared} (h : SP (X.wish E) pins D f s') : SP X pins D f s' := by
  cases f with
  | next => obtain ⟨σ', H', I, q⟩ := h; exact ⟨σ', H', I.unwish, q⟩
  | brk => obtain ⟨σ', H', I, q⟩ := h; exact ⟨σ', H', I.unwish, q⟩
  | cont => obtain ⟨σ', H', I, q⟩ := h; exact ⟨σ', H', I.unwish, q⟩
  | ret u => obtain ⟨v, σ', H', I, r, q⟩ := h; exact ⟨v, σ', H', I.unwish, r, q⟩
theorem PSs.nox {st : List Stmt} {t : TS} (h : PSs X.nox st t) : PSs X st t := fun pins s σ H D I hw =>
  wpAny_mono (h pins s σ H D (I.wish _) hw) (fun _ _ q => q.unwish) fun _ _ z => False.elim z
end
section
variable {X : Cx} {st : Stmt} {rest : List Stmt} {t u : TS} {e : Expr} {te : TE} {pos : Pos}
def tNext : TS := fun D σ H => D.nx σ H
def tSeq (t u : TS) : TS := fun D σ H => t { D with nx := u D } σ H
theorem pss_nil : PSs X [] tNext := fun _ _ σ H _ I h => wpAny_execs_nil ⟨σ, H, I, h⟩
theorem pss_cons (h1 : PS X st t) (h2 : PSs X rest u) : PSs X (st :: rest) (tSeq t u) := by
  intro pins s σ H D I h
  refine wpAny_execs_cons (thn (h1 pins s σ H { D with nx := u D } I h) fun f s1 q => ?_)
  cases f with
  | next =>
    obtain ⟨σ', H', I', q⟩ := q
    exact h2 pins s1 σ' H' D I' q
  | ret v => exact q
  | brk => exact q
  | cont => exact q
theorem pss_one (h1 : PS X st t) : PSs X [st] t := by
  intro pins s σ H D I h
  refine wpAny_execs_cons (thn (h1 pins s σ H D I h) fun f s1 q => ?_)
  cases f with
  | next => exact wpAny_execs_nil q
  | ret v => exact q
  | brk => exact q
  | cont => exact q
theorem Inv.quiet {pins : List (Addr × Obj)} {σ : St} {H : Hp} {s : Shared} (I : Inv X pins σ H s) : interactive X.env = false := by simp [interactive, I.ok.kind]
def tDrop (te : TE) : TS := fun D σ H => te σ H fun _ H1 => D.nx σ H1
theorem ps_expr (he : PE X e te) (hs : swapsWith e none pos.line X.env = pure false := by rfl) : PS X (.Expr e pos) (tDrop te) := by
  intro pins s σ H D I h
  exact wpAny_Expr_any (thnE (he pins s σ H _ I h) fun v s1 x H1 I1 r1 q1 => ⟨σ, H1, I1, q1⟩) I.quiet hs
def tRet (te : TE) : TS := fun D σ H => te σ H D.rt
theorem ps_ret (he : PE X e te) : PS X (.Return (some e) pos) (tRet te) := by
  intro pins s σ H D I h
  exact wpAny_Return_some (thnE (he pins s σ H _ I h) fun v s1 x H1 I1 r1 q1 => ⟨x, σ, H1, I1, r1, q1⟩)
def tRetN : TS := fun D _ H => D.rt .non H
def tIfS (c : TT) (t u : TS) : TS := fun D σ H => c σ H fun b H1 => if b = true then t D σ H1 else u D σ H1
theorem ps_if {c : Expr} {a b : List Stmt} {tc : TT} (hc : PT X c tc) (ha : PSs X a t) (hb : PSs X b u) : PS X (.If c a b pos) (tIfS tc t u) := by
  intro pins s σ H D I h
  refine wpAny_If (thnT (hc pins s σ H _ I h) fun d s1 H1 I1 q1 => ?_)
  cases d with
  | true => exact ha pins s1 σ H1 D I1 q1
  | false => exact hb pins s1 σ H1 D I1 q1
def tNever : TS := fun _ _ _ => False
theorem ps_never : PS X st tNever := fun _ _ _ _ _ _ h => h.elim
end
abbrev TG := V → St → Hp → (St → Hp → Prop) → Prop
abbrev TGs := List V → St → Hp → (St → Hp → Prop) → Prop
def PG (X : Cx) (target : Expr) (t : TG) : Prop :=
  ∀ (pins : List (Addr × Obj)) (s : Shared) (σ : St) (H : Hp) (v : V) (u : Value) (Q : St → Hp → Prop), Inv X pins σ H s → RelV v u → t v σ H Q →
    wpAny (model X.prog X.w) X.A (assign target X.env u) (fun _ s' => ∃ σ' H', Inv X pins σ' H' s' ∧ Q σ' H') X.xe s
def PGs (X : Cx) (ts : List Expr) (t : TGs) : Prop :=
  ∀ (pins : List (Addr × Obj)) (s : Shared) (σ : St) (H : Hp) (vs : List V) (us : List Value) (Q : St → Hp → Prop), Inv X pins σ H s → Vals vs us → t vs σ H Q →
    wpAny (model X.prog X.w) X.A (assignInOrder ((assignEach ts X.env).map (·.2)) us) (fun _ s' => ∃ σ' H', Inv X pins σ' H' s' ∧ Q σ' H') X.xe s
abbrev TSet := V → V → V → Hp → (Hp → Prop) → Prop
def PSet (X : Cx) (t : TSet) : Prop :=
  ∀ (pins : List (Addr × Obj)) (s : Shared) (σ : St) (H : Hp) (o i v : V) (ov iv u : Value) (Q : Hp → Prop), Inv X pins σ H s → RelV o ov → RelV i iv → RelV v u → t o i v H Q →
    wpAny (model X.prog X.w) X.A (setItem ov iv u) (fun _ s' => ∃ H', Inv X pins σ H' s' ∧ Q H') X.xe s
abbrev TIp := V → V → Hp → VK → Prop
section
variable {X : Cx} {pos : Pos}
def gName (i : Nat) : TG := fun v σ H Q => Q (σ.set i (some v)) H
theorem pg_name {i : Nat} {x : Str} (hN : X.N.Nodup) (hi : X.N[i]? = some x) (hx : Loc X.env.scope x) (hf : X.fn x = true ∨ X.env.scope.names.lookup x = some .local := by first | exact .inl rfl | exact .inr rfl | assumption) : PG X (.Name x pos) (gName i) := by
  intro pins s σ H v u Q I r h
  exact wpAny_assign_Name (store_ok I hN hi hx r (fun s' I' => ⟨_, H, I', h⟩) hf)
def gNil : TGs := fun vs σ H Q => vs = [] ∧ Q σ H
def gCons (t : TG) (u : TGs) : TGs := fun vs σ H Q => ∃ v r, vs = v :: r ∧ t v σ H fun σ' H' => u r σ' H' Q
theorem pgs_nil : PGs X [] gNil := by
  intro pins s σ H vs us Q I r h
  obtain ⟨e, h⟩ := h
  subst e
  cases r
  exact assignInOrder_nil ⟨σ, H, I, h⟩
theorem pgs_cons {e : Expr} {es : List Expr} {t : TG} {u : TGs} (h1 : PG X e t) (h2 : PGs X es u)
    (hs : (assignEach (e :: es) X.env).map (·.2) = assign e X.env :: (assignEach es X.env).map (·.2) := by rfl) : PGs X (e :: es) (gCons t u) := by
  intro pins s σ H vs us Q I r h
  obtain ⟨v, vr, e1, h⟩ := h
  subst e1
  cases r with
  | cons r rr =>
    rw [hs]
    refine assignInOrder_cons (thn (h1 pins s σ H _ _ _ I r h) fun _ s1 ⟨σ1, H1, I1, q1⟩ => ?_)
    exact h2 pins s1 σ1 H1 _ _ Q I1 rr q1
def gTup (K : PySem.W.Frag) (n : Nat) (t : TGs) : TG := fun v σ H Q => ∃ a xs, v = .ref a ∧ SqT K H a xs ∧ xs.length = n ∧ t xs σ H Q
theorem pg_tup {es : List Expr} {k : Nat} {t : TGs} {n : Nat} (hc : X.calm = true) (h : PGs X es t)
    (hn : (assignEach es X.env).length = n := by rfl) (hst : (assignEach es X.env).findIdx? (·.1) = none := by rfl) : PG X (.Tuple es k pos) (gTup X.K n t) := by
  intro pins s σ H v u Q I r hw
  obtain ⟨a, xs, e1, hq, hl, hw⟩ := hw
  subst e1
  cases r
  obtain ⟨its, rv, ht, hz⟩ := I.tuple hq
  refine assign_Tuple_tuple (I.ok.hd hc) ht (by simp [hn, ← hl, rv.length]) hst fun h' hx => ?_
  have I1 : Inv X pins σ H { s with heap := h' } := I.kept (t' := s.toks) fun b o e => hx b o (Nat.ne_of_lt (Heap.lt_size e)) e
  exact h pins _ σ H xs _ Q I1 (by simpa using rv) hw
def gSub (to ti : TE) (t : TSet) : TG := fun v σ H Q => to σ H fun o H1 => ti σ H1 fun i H2 => t o i v H2 fun H3 => Q σ H3
theorem pg_sub {o i : Expr} {to ti : TE} {t : TSet} (ho : PE X o to) (hi : PE X i ti) (hs : PSet X t)
    (ha : ∀ v, assign (.Subscript o i pos) X.env v = (do
      let ov ← holding [v] (eval o X.env)
      let iv ← holding [v, ov] (eval i X.env)
      standAt pos
      holding [v, ov, iv] (setItem ov iv v)
      release [v, ov, iv] []) := by intro _; rfl) : PG X (.Subscript o i pos) (gSub to ti t) := by
  intro pins s σ H v u Q I r h
  rw [ha]
  refine wpAny_bind (wpAny_holding (thnE (ho pins s σ H _ I h) fun ov s1 x H1 I1 r1 q1 => ?_))
  refine wpAny_bind (wpAny_holding (thnE (hi pins s1 σ H1 _ I1 q1) fun iv s2 y H2 I2 r2 q2 => ?_))
  refine wpAny_bind (wpAny_standAt (wpAny_bind (wpAny_holding (thn (hs pins s2 σ H2 x y v ov iv u _ I2 r1 r2 r q2) fun _ s3 ⟨H3, I3, q3⟩ => ?_))))
  exact wpAny_release ⟨σ, H3, I3, q3⟩
def tAsg (te : TE) (g : TG) : TS := fun D σ H => te σ H fun x H1 => g x σ H1 D.nx
theorem ps_asg {tg e : Expr} {te : TE} {g : TG} (he : PE X e te) (hg : PG X tg g) (hs : swapsWithSole [tg] e pos.line X.env = pure false := by rfl) (hw : swappedStores [tg] e X.env = pure none := by rfl)
    (h1 : (assignEach [tg] X.env).map (·.2) = [assign tg X.env] := by rfl) : PS X (.Assign [tg] e pos) (tAsg te g) := by
  intro pins s σ H D I h
  refine wpAny_Assign_stores (thnE (he pins s σ H _ I h) fun v s1 x H1 I1 r1 q1 => ?_) hs hw
  rw [h1]
  exact thn (hg pins s1 σ H1 x v _ I1 r1 q1) fun _ s2 q => q
theorem ps_set {i : Nat} {x : Str} {e : Expr} {te : TE} {pos' : Pos} (hN : X.N.Nodup) (hi : X.N[i]? = some x) (hx : Loc X.env.scope x) (he : PE X e te) (hs : swapsWith e (some (.Name x pos')) pos.line X.env = pure false := by rfl) (hf : X.fn x = true ∨ X.env.scope.names.lookup x = some .local := by first | exact .inl rfl | exact .inr rfl | assumption) :
    PS X (.Assign [.Name x pos'] e pos) (tAsg te (gName i)) := by
  intro pins s σ H D I h
  refine wpAny_Assign_Name (thnE (he pins s σ H _ I h) fun v s1 y H1 I1 r1 q1 => ?_) hs
  exact store_ok I1 hN hi hx r1 (fun s2 I2 => ⟨_, H1, I2, q1⟩) hf
def tAug (i : Nat) (te : TE) (ti : TIp) : TS := fun D σ H => ∃ x, σ[i]? = some (some x) ∧ te σ H fun y H1 => ti x y H1 fun z H2 => D.nx (σ.set i (some z)) H2
def tAugS (to ti te : TE) (tget : V → V → Hp → VK → Prop) (tip : TIp) (tset : TSet) : TS := fun D σ H => to σ H fun o H1 => ti σ H1 fun i H2 => tget o i H2 fun x H3 => te σ H3 fun y H4 => tip x y H4 fun z H5 => tset o i z H5 fun H6 => D.nx σ H6
def ipI (f : Int → Int → Int) : TIp := fun x y H Q => ∃ i j, x = .int i ∧ y = .int j ∧ Q (.int (f i j)) H
end
section
variable {X : Cx} {pos : Pos}
def tWhile (c : TT) (tb : TS) : TS := fun D σ H => ∃ W : Nat → St → Hp → Prop, (∃ m, W m σ H) ∧ ∀ m σ H, W m σ H →
  c σ H fun b H1 => if b = true then ∃ N : St → Hp → Prop, (∀ σ' H', N σ' H' → ∃ m', m' < m ∧ W m' σ' H') ∧ tb { D with nx := N, ct := N, bk := D.nx } σ H1 else D.nx σ H1
theorem ps_while {c : Expr} {body : List Stmt} {tc : TT} {tb : TS} (hp : PassesOwn (model X.prog X.w) X.A X.env X.xe) (hc : PT X c tc) (hb : PSs X body tb) : PS X (.While c body [] pos) (tWhile tc tb) := by
  intro pins s σ H D I h
  obtain ⟨W, ⟨m0, w0⟩, turn⟩ := h
  refine wpAny_While (codeAny_whileLoop (fun n s' => ∃ σ' H', Inv X pins σ' H' s' ∧ W n σ' H') ?_ m0 ⟨σ, H, I, w0⟩)
  rintro n s1 ⟨σ1, H1, I1, w1⟩
  refine wpAny_passesOwn hp (thnT (hc pins s1 σ1 H1 _ I1 (turn n σ1 H1 w1)) fun b s2 H2 I2 q2 => ?_)
  cases b with
  | true =>
    obtain ⟨N, hN, q2⟩ := q2
    rw [if_pos rfl]
    refine wpAny_passesOwn hp (thn (hb pins s2 σ1 H2 _ I2 q2) fun f s3 q3 => ?_)
    cases f with
    | next =>
      obtain ⟨σ3, H3, I3, n3⟩ := q3
      obtain ⟨m', hm, w3⟩ := hN σ3 H3 n3
      exact ⟨m', hm, σ3, H3, I3, w3⟩
    | cont =>
      obtain ⟨σ3, H3, I3, n3⟩ := q3
      obtain ⟨m', hm, w3⟩ := hN σ3 H3 n3
      exact ⟨m', hm, σ3, H3, I3, w3⟩
    | brk => exact q3
    | ret v => exact q3
  | false =>
    rw [if_neg Bool.false_ne_true]
    exact wpAny_execs_nil ⟨σ1, H2, I2, q2⟩
end
structure It where
  go : Nat → Hp → Prop
  yld : Nat → Hp → V → Hp → Prop
  stop : Nat → Hp → Prop
def FpOk (X : Cx) (pins : List (Addr × Obj)) (H : Hp) (b : Addr) : Prop :=
  H b = none ∧ b ≠ X.env.locals ∧ b ∉ X.fs ∧ (b ∈ X.ex ∨ X.s₀.heap.objs.size ≤ b) ∧ (∀ x c, X.env.cells.lookup x = some c → c ≠ b) ∧ ∀ p ∈ X.pn ++ pins, p.1 ≠ b
theorem Inv.fpOk {X : Cx} {pins : List (Addr × Obj)} {σ : St} {H H' : Hp} {s : Shared} {b : Addr} (I : Inv X pins σ H s) (hb : s.heap.objs.size ≤ b) (hn : H' b = none) : FpOk X pins H' b := by
  refine ⟨hn, Nat.ne_of_gt (Nat.lt_of_lt_of_le I.lt hb), I.nofs hb, .inr (Nat.le_trans I.sz hb), fun x c e z => ?_, fun p hp z => ?_⟩
  · obtain ⟨v, q⟩ := I.cell x c e
    exact absurd (Nat.lt_of_lt_of_le q.lt (by rw [z]; exact hb)) (Nat.lt_irrefl _)
  · exact absurd (Nat.lt_of_lt_of_le (Heap.lt_size (I.pin p hp).1) (by rw [z]; exact hb)) (Nat.lt_irrefl _)
structure Turn (P : Program) (w : World) (K : PySem.W.Frag) (tg : Expr) (J : It) (fp : List Addr) (it : Addr) (tn : Nat → Heap → Prop) : Prop where
  mem : it ∈ fp
  obj : ∀ i h, tn i h → ∀ b ∈ fp, ∃ o, h.get? b = some o ∧ ∀ v, o.data ≠ .cell v
  keep : ∀ i h h', tn i h → (∀ b ∈ fp, ∀ o, h.get? b = some o → h'.get? b = some o) → tn i h'
  item : ∀ (X : Cx), X.prog = P → X.w = w → X.K = K → X.calm = true → ∀ (i : Nat) (pins : List (Addr × Obj)) (s : Shared) (σ : St) (H : Hp) (E : Value → Shared → Prop), Inv X pins σ H s → (∀ b ∈ fp, FpOk X pins H b) → tn i s.heap → J.go i H →
    wpAny (model P w) X.A (pyNext (.ref it)) (fun r s1 => ∃ u, r = some u ∧
      wpAny (model P w) X.A (letOwnedTupleGo tg (.ref it) u) (fun _ s2 => ∃ x H', Inv X pins σ H' s2 ∧ RelV x u ∧ J.yld i H x H' ∧ tn (i + 1) s2.heap ∧ ∀ b ∈ fp, H' b = none) E s1) E s
  done : ∀ (X : Cx), X.prog = P → X.w = w → X.K = K → X.calm = true → ∀ (i : Nat) (pins : List (Addr × Obj)) (s : Shared) (σ : St) (H : Hp) (E : Value → Shared → Prop), Inv X pins σ H s → (∀ b ∈ fp, FpOk X pins H b) → tn i s.heap → J.stop i H →
    wpAny (model P w) X.A (pyNext (.ref it)) (fun r s1 => r = none ∧ Inv X pins σ H s1) E s
  self : ∀ (A : Around) (i : Nat) (s : Shared) (Q : Value → Shared → Prop) (E : Value → Shared → Prop), tn i s.heap → Q (.ref it) s → wpAny (model P w) A (pyIter (.ref it)) Q E s
abbrev TI := St → Hp → (It → Hp → Prop) → Prop
def PIE (X : Cx) (pins : List (Addr × Obj)) (σ : St) (tg : Expr) (R : It → Hp → Prop) (itv : Value) (s2 : Shared) : Prop :=
  ∃ (it : Addr) (fp : List Addr) (tn : Nat → Heap → Prop) (J : It) (H' : Hp), itv = .ref it ∧ Inv X pins σ H' s2 ∧ Turn X.prog X.w X.K tg J fp it tn ∧ tn 0 s2.heap ∧ (∀ b ∈ fp, FpOk X pins H' b) ∧ R J H'
def PI (X : Cx) (tg iter : Expr) (wi : TI) : Prop :=
  ∀ (pins : List (Addr × Obj)) (s : Shared) (σ : St) (H : Hp) (R : It → Hp → Prop), Inv X pins σ H s → wi σ H R →
    wpAny (model X.prog X.w) X.A (eval iter X.env) (fun v s1 => wpAny (model X.prog X.w) X.A (pyIter v) (PIE X pins σ tg R) X.xe s1) X.xe s
theorem go_of {M : Model} {A : Around} {E : Value → Shared → Prop} {s : Shared} {tg : Expr} {it : Addr} {u : Value} {o : Obj} {n : String} {vs : Array Value} {Q : Unit → Shared → Prop} (ho : s.heap.get? it = some o) (hc : o.cls = .type n) (hd : o.data = .fields vs)
    (hn : ["enumerate", "zip", "dict_itemiterator", "dict_reverseitemiterator", "odict_iterator", "itertools.zip_longest", "itertools.pairwise"].contains n = false) (hQ : Q () s) : wpAny M A (letOwnedTupleGo tg (.ref it) u) Q E s := by
  unfold letOwnedTupleGo
  cases tg <;> first
    | exact wpAny_pure hQ
    | (cases u <;> first
        | exact wpAny_pure hQ
        | (refine wpAny_bind (wpAny_load ho ?_)
           rw [hc, hd]
           show wpAny M A (if (["enumerate", "zip", "dict_itemiterator", "dict_reverseitemiterator", "odict_iterator", "itertools.zip_longest", "itertools.pairwise"].contains n && vs[0]? == some (rawInt _)) = true then _ else _) Q E s
           rw [if_neg (by intro h; rw [hn, Bool.false_and] at h; cases h)]
           exact wpAny_pure hQ))
def Itl (K : PySem.W.Frag) (a : Addr) : It :=
  ⟨fun i H => ∃ xs x, SqL K H a xs ∧ xs[i]? = some x, fun i H x H' => H' = H ∧ ∀ xs, SqL K H a xs → xs[i]? = some x, fun i H => ∃ xs, SqL K H a xs ∧ xs.length ≤ i⟩
def Itt (K : PySem.W.Frag) (a : Addr) : It :=
  ⟨fun i H => ∃ xs x, SqT K H a xs ∧ xs[i]? = some x, fun i H x H' => H' = H ∧ ∀ xs, SqT K H a xs → xs[i]? = some x, fun i H => ∃ xs, SqT K H a xs ∧ xs.length ≤ i⟩
def Itr (lo : Int) (n : Nat) : It := ⟨fun i _ => i < n, fun i H x H' => H' = H ∧ x = .int (lo + i), fun i _ => n ≤ i⟩
theorem turn_list {P : Program} {w : World} {K : PySem.W.Frag} {tg : Expr} (a it : Addr) : Turn P w K tg (Itl K a) [it] it (fun i h => h.IsListIter it a i) where
  mem := by simp
  obj := fun i h st b hb => by
    have e : b = it := by simpa using hb
    subst e
    obtain ⟨o, e, c, d⟩ := st
    exact ⟨o, e, fun v z => by rw [d] at z; cases z⟩
  keep := fun i h h' st k => st.at fun o e => k it (by simp) o e
  item := by
    intro X hP hw hK hc i pins s σ H E I hf st hg
    subst hP hw hK
    obtain ⟨xs, x, hq, hx⟩ := hg
    obtain ⟨its, rv, p, hz⟩ := I.list hq
    obtain ⟨u, hu, ru⟩ := rv.get hx
    obtain ⟨f0, f1, f2, f3, f4, f5⟩ := hf it (by simp)
    refine wpAny_pyNext_list_item st p.isList (x := u) (by simpa using hu) fun h' st' sb => ?_
    have I1 : Inv X pins σ H { s with heap := h' } := I.turned (t' := s.toks) (fun b o hb e => (sb.2 b hb).trans e) f0 f1 f3 f4 f5
    obtain ⟨o, e, c, d⟩ := id st'
    exact ⟨u, rfl, go_of (s := { s with heap := h' }) e c d (by decide) ⟨x, H, I1, ru, ⟨rfl, fun ys hy => by rw [I.list_inj hy hq]; exact hx⟩, st', fun b hb => (hf b hb).1⟩⟩
  done := by
    intro X hP hw hK hc i pins s σ H E I hf st hg
    subst hP hw hK
    obtain ⟨xs, hq, hx⟩ := hg
    obtain ⟨its, rv, p, hz⟩ := I.list hq
    obtain ⟨f0, f1, f2, f3, f4, f5⟩ := hf it (by simp)
    have hl := rv.length
    exact wpAny_pyNext_list_end (I.ok.hd hc) st p.isList (by simp; omega) fun h' eb => ⟨rfl, I.turned (t' := s.toks) (fun b o hb e => eb b o hb e) f0 f1 f3 f4 f5⟩
  self := fun _ _ _ _ _ st h => wpAny_pyIter_listiter st h
theorem turn_tuple {P : Program} {w : World} {K : PySem.W.Frag} {tg : Expr} (a it : Addr) : Turn P w K tg (Itt K a) [it] it (fun i h => h.IsTupleIter it a i) where
  mem := by simp
  obj := fun i h st b hb => by
    have e : b = it := by simpa using hb
    subst e
    obtain ⟨o, e, c, d⟩ := st
    exact ⟨o, e, fun v z => by rw [d] at z; cases z⟩
  keep := fun i h h' st k => st.at fun o e => k it (by simp) o e
  item := by
    intro X hP hw hK hc i pins s σ H E I hf st hg
    subst hP hw hK
    obtain ⟨xs, x, hq, hx⟩ := hg
    obtain ⟨its, rv, p, hz⟩ := I.tuple hq
    obtain ⟨u, hu, ru⟩ := rv.get hx
    obtain ⟨f0, f1, f2, f3, f4, f5⟩ := hf it (by simp)
    refine wpAny_pyNext_tuple_item st (show s.heap.IsTuple a its.toArray from p) (x := u) (by simpa using hu) fun h' st' sb => ?_
    have I1 : Inv X pins σ H { s with heap := h' } := I.turned (t' := s.toks) (fun b o hb e => (sb.2 b hb).trans e) f0 f1 f3 f4 f5
    obtain ⟨o, e, c, d⟩ := id st'
    exact ⟨u, rfl, go_of (s := { s with heap := h' }) e c d (by decide) ⟨x, H, I1, ru, ⟨rfl, fun ys hy => by rw [I.tuple_inj hy hq]; exact hx⟩, st', fun b hb => (hf b hb).1⟩⟩
  done := by
    intro X hP hw hK hc i pins s σ H E I hf st hg
    subst hP hw hK
    obtain ⟨xs, hq, hx⟩ := hg
    obtain ⟨its, rv, p, hz⟩ := I.tuple hq
    obtain ⟨f0, f1, f2, f3, f4, f5⟩ := hf it (by simp)
    have hl := rv.length
    exact wpAny_pyNext_tuple_end (I.ok.hd hc) st (show s.heap.IsTuple a its.toArray from p) (by simp; omega) fun h' eb => ⟨rfl, I.turned (t' := s.toks) (fun b o hb e => eb b o hb e) f0 f1 f3 f4 f5⟩
  self := fun _ _ _ _ _ st h => wpAny_pyIter_tupleiter st h
theorem turn_range {P : Program} {w : World} {K : PySem.W.Frag} {tg : Expr} (it : Addr) (lo : Int) (n : Nat) : Turn P w K tg (Itr lo n) [it] it (fun i h => IsRangeIter h it (lo + (i : Nat) * 1) ((n : Int) - (i : Nat)) 1) where
  mem := by simp
  obj := fun i h st b hb => by
    have e : b = it := by simpa using hb
    subst e
    exact ⟨_, st, fun v z => by
      have z' : Data.fields _ = Data.cell v := z
      cases z'⟩
  keep := fun i h h' st k => k it (by simp) _ st
  item := by
    intro X hP hw hK hc i pins s σ H E I hf st hg
    subst hP hw hK
    obtain ⟨f0, f1, f2, f3, f4, f5⟩ := hf it (by simp)
    have W := Walks.range (prog := X.prog) (w := X.w) (I.ok.hd hc) it lo 1 n
    refine W.item i s _ _ hg st fun v h' tk hv st' kk => ?_
    obtain ⟨t, rfl⟩ := hv
    have I1 : Inv X pins σ H { s with heap := h', toks := tk } := I.turned (fun b o hb e => kk b o (by simpa using hb) e) f0 f1 f3 f4 f5
    refine ⟨_, rfl, go_of (s := { s with heap := h', toks := tk }) (n := "range_iterator") st' rfl rfl (by decide) ⟨.int (lo + i), H, I1, ⟨t, ?_⟩, ⟨rfl, rfl⟩, st', fun b hb => (hf b hb).1⟩⟩
    rw [Int.mul_one]
  done := by
    intro X hP hw hK hc i pins s σ H E I hf st hg
    subst hP hw hK
    obtain ⟨f0, f1, f2, f3, f4, f5⟩ := hf it (by simp)
    exact wpAny_pyNext_range_end (I.ok.hd hc) st (by have : n ≤ i := hg; omega) fun h' eb => ⟨rfl, I.turned (t' := s.toks) (fun b o hb e => eb b o hb e) f0 f1 f3 f4 f5⟩
  self := fun _ _ _ _ _ st h => wpAny_pyIter_rangeiter st h
end L2
namespace L2
open PySem PySem.Spec PyProof.Rows
section
variable {X : Cx} {tg : Expr}
def iList (K : PySem.W.Frag) (tl : TE) : TI := fun σ H R => tl σ H fun x H1 => ∃ a, x = .ref a ∧ (∃ xs, SqL K H1 a xs) ∧ R (Itl K a) H1
def iTup (K : PySem.W.Frag) (tl : TE) : TI := fun σ H R => tl σ H fun x H1 => ∃ a, x = .ref a ∧ (∃ xs, SqT K H1 a xs) ∧ R (Itt K a) H1
theorem pi_list {l : Expr} {tl : TE} (hl : PE X l tl) : PI X tg l (iList X.K tl) := by
  intro pins s σ H R I h
  refine thnE (hl pins s σ H _ I h) fun v s1 x H1 I1 r1 q1 => ?_
  obtain ⟨a, e, ⟨xs, hq⟩, q⟩ := q1
  subst e
  cases r1
  obtain ⟨its, rv, p, hz⟩ := I1.list hq
  refine wpAny_pyIter_list p.isList ?_
  refine ⟨s1.heap.objs.size, [s1.heap.objs.size], _, _, H1, rfl, I1.kept (t' := s1.toks) fun b o e => Heap.get?_push_of_some _ e, turn_list a _, ⟨_, Heap.get?_push_size _ rfl, rfl, rfl⟩, fun b hb => ?_, q⟩
  have e : b = s1.heap.objs.size := by simpa using hb
  subst e
  exact I1.fpOk (Nat.le_refl _) (I1.hok.fresh (Nat.le_refl _))
theorem pi_tup {l : Expr} {tl : TE} (hl : PE X l tl) : PI X tg l (iTup X.K tl) := by
  intro pins s σ H R I h
  refine thnE (hl pins s σ H _ I h) fun v s1 x H1 I1 r1 q1 => ?_
  obtain ⟨a, e, ⟨xs, hq⟩, q⟩ := q1
  subst e
  cases r1
  obtain ⟨its, rv, p, hz⟩ := I1.tuple hq
  refine wpAny_pyIter_tuple (show s1.heap.IsTuple a its.toArray from p) ?_
  refine ⟨s1.heap.objs.size, [s1.heap.objs.size], _, _, H1, rfl, I1.kept (t' := s1.toks) fun b o e => Heap.get?_push_of_some _ e, turn_tuple a _, ⟨_, Heap.get?_push_size _ rfl, rfl, rfl⟩, fun b hb => ?_, q⟩
  have e : b = s1.heap.objs.size := by simpa using hb
  subst e
  exact I1.fpOk (Nat.le_refl _) (I1.hok.fresh (Nat.le_refl _))
theorem range_it {pins : List (Addr × Obj)} {σ : St} {H : Hp} {s : Shared} {R : It → Hp → Prop} {E : Value → Shared → Prop} {lo hi : Int} {t u v : Tok} {tk : Nat} (I : Inv X pins σ H s) (h1 : -(2 ^ 62) ≤ lo) (h2 : lo < 2 ^ 62) (h3 : -(2 ^ 62) ≤ hi) (h4 : hi < 2 ^ 62)
    (q : R (Itr lo (hi - lo).toNat) H) : wpAny (model X.prog X.w) X.A (pyIter (.ref s.heap.objs.size)) (PIE X pins σ tg R) E { s with heap := s.heap.push { cls := .type "range", data := .fields #[.int lo t, .int hi u, .int 1 v] }, toks := tk } := by
  refine wpAny_pyIter_range (IsRange.new ..) (small_one h1 h2 h3 h4) ?_
  have I1 : Inv X pins σ H { s with heap := s.heap.push { cls := .type "range", data := .fields #[.int lo t, .int hi u, .int 1 v] }, toks := tk } := I.kept fun b o e => Heap.get?_push_of_some _ e
  refine ⟨(s.heap.push { cls := .type "range", data := .fields #[.int lo t, .int hi u, .int 1 v] }).objs.size, [(s.heap.push { cls := .type "range", data := .fields #[.int lo t, .int hi u, .int 1 v] }).objs.size], _, _, H, rfl,
    I1.kept (t' := tk) fun b o e => Heap.get?_push_of_some _ e, turn_range _ lo (hi - lo).toNat, ?_, fun b hb => ?_, q⟩
  · have e1 : lo + ((0 : Nat) : Int) * 1 = lo := by simp
    have e2 : (((hi - lo).toNat : Nat) : Int) - ((0 : Nat) : Int) = Builtin.Range.rangeSize lo hi 1 := by rw [rangeSize_one]; split <;> omega
    show IsRangeIter _ _ (lo + ((0 : Nat) : Int) * 1) ((((hi - lo).toNat : Nat) : Int) - ((0 : Nat) : Int)) 1
    rw [e1, e2]
    exact Heap.get?_push_size _ rfl
  · have e : b = (s.heap.push { cls := .type "range", data := .fields #[.int lo t, .int hi u, .int 1 v] }).objs.size := by simpa using hb
    subst e
    exact I1.fpOk (Nat.le_refl _) (I1.hok.fresh (Nat.le_refl _))
def iRng1 (ta : TA) : TI := fun σ H R => ta σ H fun vs H1 => ∃ j : Int, vs = [.int j] ∧ -(2 ^ 62) ≤ j ∧ j < 2 ^ 62 ∧ R (Itr 0 j.toNat) H1
def iRng2 (ta : TA) : TI := fun σ H R => ta σ H fun vs H1 => ∃ i j : Int, vs = [.int i, .int j] ∧ (-(2 ^ 62) ≤ i ∧ i < 2 ^ 62 ∧ -(2 ^ 62) ≤ j ∧ j < 2 ^ 62) ∧ R (Itr i (j - i).toNat) H1
theorem pi_range1 {a : Expr} {ta : TA} {p pos : Pos} (hg : Gl X "range") (hm : X.mg "range" = none) (ha : PA X [a] ta) (hs : starEach [a] X.env = [(false, eval a X.env)] := by rfl) : PI X tg (.Call (.Name "range" p) [a] [] pos) (iRng1 ta) := by
  intro pins s σ H R I h
  refine Call_ (ld_blt I hg hm boot_range (PyProof.Rows.callWith_type1 (thnA (ha pos pins s σ H _ I h) fun us s1 vs H1 I1 r1 q1 => ?_) hs rfl))
  obtain ⟨j, e, q1, q2, q⟩ := q1
  subst e
  cases r1 with
  | cons r rr =>
    cases rr
    obtain ⟨t, rfl⟩ := r
    exact call_range_1 (range_it I1 (by omega) (by omega) q1 q2 (by simpa using q))
def tFor (wi : TI) (g : TG) (tb : TS) : TS := fun D σ H => wi σ H fun J H1 => ∃ W : Nat → Nat → St → Hp → Prop, (∃ m, W 0 m σ H1) ∧ ∀ i m σ H, W i m σ H →
  (J.stop i H ∧ D.nx σ H) ∨ (J.go i H ∧ ∃ N : St → Hp → Prop, (∀ σ' H', N σ' H' → ∃ m', m' < m ∧ W (i + 1) m' σ' H') ∧ ∀ x H', J.yld i H x H' → g x σ H' fun σ2 H2 => tb { D with nx := N, ct := N, bk := D.nx } σ2 H2)
def pinsAt (fp : List Addr) (h : Heap) : List (Addr × Obj) := fp.filterMap fun b => (h.get? b).map fun o => (b, o)
theorem mem_pinsAt {fp : List Addr} {h : Heap} {b : Addr} {o : Obj} (hb : b ∈ fp) (e : h.get? b = some o) : (b, o) ∈ pinsAt fp h := List.mem_filterMap.mpr ⟨b, hb, by rw [e]; rfl⟩
theorem of_pinsAt {fp : List Addr} {h : Heap} {p : Addr × Obj} (hp : p ∈ pinsAt fp h) : p.1 ∈ fp ∧ h.get? p.1 = some p.2 := by
  obtain ⟨b, hb, e⟩ := List.mem_filterMap.mp hp
  cases q : h.get? b with
  | none => rw [q] at e; cases e
  | some o =>
    rw [q] at e
    have e' : (b, o) = p := Option.some.inj e
    subst e'
    exact ⟨hb, q⟩
theorem Inv.pinned {pins : List (Addr × Obj)} {σ : St} {H : Hp} {s : Shared} {fp : List Addr} (I : Inv X pins σ H s) (hf : ∀ b ∈ fp, FpOk X pins H b) (ho : ∀ b ∈ fp, ∃ o, s.heap.get? b = some o ∧ ∀ v, o.data ≠ .cell v) : Inv X (pins ++ pinsAt fp s.heap) σ H s :=
  I.pins_of fun p hp => (List.mem_append.mp hp).elim (fun z => I.pin p (List.mem_append_right _ z)) fun z => by
    obtain ⟨hb, e⟩ := of_pinsAt z
    obtain ⟨f0, f1, f2, _⟩ := hf p.1 hb
    obtain ⟨o, e', d⟩ := ho p.1 hb
    rw [e] at e'; cases e'
    exact ⟨e, f0, f1, f2, d⟩
theorem Inv.unpinned {pins pl : List (Addr × Obj)} {σ : St} {H : Hp} {s : Shared} (I : Inv X (pins ++ pl) σ H s) : Inv X pins σ H s := I.pins_of fun p hp => I.pin p (List.mem_append_right _ (List.mem_append_left _ hp))
theorem ps_for {iter : Expr} {body : List Stmt} {wi : TI} {g : TG} {tb : TS} {pos : Pos} (hp : PassesOwn (model X.prog X.w) X.A X.env X.xe) (hc : X.calm = true) (hi : PI X tg iter wi) (hg : PG X tg g) (hb : PSs X body tb)
    (hs : ∀ x, foldedSetIterable iter X.env x = pure x := by intro _; rfl) : PS X (.For tg iter body [] pos) (tFor wi g tb) := by
  intro pins s σ H D I h
  refine wpAny_For (thn (hi pins s σ H _ I h) fun v s1 h1 => thn h1 fun itv s2 h2 => ?_) hs
  obtain ⟨it, fp, tn, J, H2, e, I2, T, st2, f2, W, ⟨m0, w0⟩, turn⟩ := h2
  subst e
  -- what stays true of the iterator's objects through the loop
  have stat : ∀ {H' : Hp}, (∀ b ∈ fp, H' b = none) → ∀ b ∈ fp, FpOk X pins H' b := fun hn b hb => ⟨hn b hb, (f2 b hb).2⟩
  refine codeAny_forLoop_any (fun n s' => ∃ i σ' H', Inv X pins σ' H' s' ∧ tn i s'.heap ∧ (∀ b ∈ fp, H' b = none) ∧ W i n σ' H') ?_ m0 ⟨0, σ, H2, I2, st2, fun b hb => (f2 b hb).1, w0⟩
  rintro n s3 ⟨i, σ3, H3, I3, st3, fr3, w3⟩
  rcases turn i n σ3 H3 w3 with ⟨stop, qn⟩ | ⟨go, N, hN, step⟩
  · refine wpAny_passesOwn hp (thn (T.done X rfl rfl rfl hc i pins s3 σ3 H3 X.xe I3 (stat fr3) st3 stop) fun r s4 ⟨hr, I4⟩ => ?_)
    subst hr
    exact wpAny_execs_nil ⟨σ3, H3, I4, qn⟩
  · refine wpAny_passesOwn hp (thn (T.item X rfl rfl rfl hc i pins s3 σ3 H3 X.xe I3 (stat fr3) st3 go) fun r s4 ⟨u, hr, h4⟩ => ?_)
    subst hr
    refine wpAny_passesOwn hp (thn h4 fun _ s5 ⟨x, H5, I5, r5, y5, st5, fr5⟩ => ?_)
    have I5' := I5.pinned (stat fr5) (T.obj _ _ st5)
    refine wpAny_passesOwn hp (thn (hg _ s5 σ3 H5 x u _ I5' r5 (step x H5 y5)) fun _ s6 ⟨σ6, H6, I6, q6⟩ => ?_)
    refine wpAny_passesOwn hp (thn (hb _ s6 σ6 H6 _ I6 q6) fun f s7 q7 => ?_)
    have again : ∀ {σ7 : St} {H7 : Hp}, Inv X (pins ++ pinsAt fp s5.heap) σ7 H7 s7 → N σ7 H7 → ∃ m, m < n ∧ ∃ i σ' H', Inv X pins σ' H' s7 ∧ tn i s7.heap ∧ (∀ b ∈ fp, H' b = none) ∧ W i m σ' H' := fun {σ7 H7} I7 n7 => by
      obtain ⟨m', hm, w7⟩ := hN σ7 H7 n7
      refine ⟨m', hm, i + 1, σ7, H7, I7.unpinned, T.keep _ _ _ st5 fun b hb o e => (I7.pin (b, o) (List.mem_append_right _ (List.mem_append_right _ (mem_pinsAt hb e)))).1, fun b hb => ?_, w7⟩
      obtain ⟨o, e, d⟩ := T.obj _ _ st5 b hb
      exact (I7.pin (b, o) (List.mem_append_right _ (List.mem_append_right _ (mem_pinsAt hb e)))).2.1
    cases f with
    | next => obtain ⟨σ7, H7, I7, n7⟩ := q7; exact again I7 n7
    | cont => obtain ⟨σ7, H7, I7, n7⟩ := q7; exact again I7 n7
    | brk => obtain ⟨σ7, H7, I7, q7⟩ := q7; exact ⟨σ7, H7, I7.unpinned, q7⟩
    | ret v => obtain ⟨x7, σ7, H7, I7, r7, q7⟩ := q7; exact ⟨x7, σ7, H7, I7.unpinned, r7, q7⟩
end
theorem for_list {K : PySem.W.Frag} {a : Addr} {xs : List V} {g : TG} {tb : TS} {D : Ends} {σ : St} {H : Hp} (Pv : Nat → St → Hp → Prop) (h0 : Pv 0 σ H) (hl : ∀ i σ H, i ≤ xs.length → Pv i σ H → SqL K H a xs)
    (hs : ∀ i x σ H, xs[i]? = some x → Pv i σ H → g x σ H fun σ2 H2 => tb { D with nx := Pv (i + 1), ct := Pv (i + 1), bk := D.nx } σ2 H2) (hd : ∀ σ H, Pv xs.length σ H → D.nx σ H) :
    ∃ W : Nat → Nat → St → Hp → Prop, (∃ m, W 0 m σ H) ∧ ∀ i m σ H, W i m σ H →
      ((Itl K a).stop i H ∧ D.nx σ H) ∨ ((Itl K a).go i H ∧ ∃ N : St → Hp → Prop, (∀ σ' H', N σ' H' → ∃ m', m' < m ∧ W (i + 1) m' σ' H') ∧ ∀ x H', (Itl K a).yld i H x H' → g x σ H' fun σ2 H2 => tb { D with nx := N, ct := N, bk := D.nx } σ2 H2) := by
  refine ⟨fun i m σ H => m = xs.length - i ∧ i ≤ xs.length ∧ Pv i σ H, ⟨xs.length, by simp, Nat.zero_le _, h0⟩, ?_⟩
  rintro i m σ H ⟨rfl, hi, p⟩
  have q := hl i σ H hi p
  by_cases hlt : i < xs.length
  · refine .inr ⟨⟨xs, xs[i], q, by simp [hlt]⟩, Pv (i + 1), fun σ' H' p' => ⟨xs.length - (i + 1), by omega, rfl, hlt, p'⟩, fun x H' y => ?_⟩
    obtain ⟨e, y⟩ := y
    subst e
    exact hs i x σ _ (y xs q) p
  · have e : i = xs.length := by omega
    subst e
    exact .inl ⟨⟨xs, q, Nat.le_refl _⟩, hd σ H p⟩
theorem for_tup {K : PySem.W.Frag} {a : Addr} {xs : List V} {g : TG} {tb : TS} {D : Ends} {σ : St} {H : Hp} (Pv : Nat → St → Hp → Prop) (h0 : Pv 0 σ H) (hl : ∀ i σ H, i ≤ xs.length → Pv i σ H → SqT K H a xs)
    (hs : ∀ i x σ H, xs[i]? = some x → Pv i σ H → g x σ H fun σ2 H2 => tb { D with nx := Pv (i + 1), ct := Pv (i + 1), bk := D.nx } σ2 H2) (hd : ∀ σ H, Pv xs.length σ H → D.nx σ H) :
    ∃ W : Nat → Nat → St → Hp → Prop, (∃ m, W 0 m σ H) ∧ ∀ i m σ H, W i m σ H →
      ((Itt K a).stop i H ∧ D.nx σ H) ∨ ((Itt K a).go i H ∧ ∃ N : St → Hp → Prop, (∀ σ' H', N σ' H' → ∃ m', m' < m ∧ W (i + 1) m' σ' H') ∧ ∀ x H', (Itt K a).yld i H x H' → g x σ H' fun σ2 H2 => tb { D with nx := N, ct := N, bk := D.nx } σ2 H2) := by
  refine ⟨fun i m σ H => m = xs.length - i ∧ i ≤ xs.length ∧ Pv i σ H, ⟨xs.length, by simp, Nat.zero_le _, h0⟩, ?_⟩
  rintro i m σ H ⟨rfl, hi, p⟩
  have q := hl i σ H hi p
  by_cases hlt : i < xs.length
  · refine .inr ⟨⟨xs, xs[i], q, by simp [hlt]⟩, Pv (i + 1), fun σ' H' p' => ⟨xs.length - (i + 1), by omega, rfl, hlt, p'⟩, fun x H' y => ?_⟩
    obtain ⟨e, y⟩ := y
    subst e
    exact hs i x σ _ (y xs q) p
  · have e : i = xs.length := by omega
    subst e
    exact .inl ⟨⟨xs, q, Nat.le_refl _⟩, hd σ H p⟩
theorem for_range {lo : Int} {n : Nat} {g : TG} {tb : TS} {D : Ends} {σ : St} {H : Hp} (Pv : Nat → St → Hp → Prop) (h0 : Pv 0 σ H)
    (hs : ∀ i σ H, i < n → Pv i σ H → g (.int (lo + i)) σ H fun σ2 H2 => tb { D with nx := Pv (i + 1), ct := Pv (i + 1), bk := D.nx } σ2 H2) (hd : ∀ σ H, Pv n σ H → D.nx σ H) :
    ∃ W : Nat → Nat → St → Hp → Prop, (∃ m, W 0 m σ H) ∧ ∀ i m σ H, W i m σ H →
      ((Itr lo n).stop i H ∧ D.nx σ H) ∨ ((Itr lo n).go i H ∧ ∃ N : St → Hp → Prop, (∀ σ' H', N σ' H' → ∃ m', m' < m ∧ W (i + 1) m' σ' H') ∧ ∀ x H', (Itr lo n).yld i H x H' → g x σ H' fun σ2 H2 => tb { D with nx := N, ct := N, bk := D.nx } σ2 H2) := by
  refine ⟨fun i m σ H => m = n - i ∧ i ≤ n ∧ Pv i σ H, ⟨n, by simp, Nat.zero_le _, h0⟩, ?_⟩
  rintro i m σ H ⟨rfl, hi, p⟩
  by_cases hlt : i < n
  · refine .inr ⟨hlt, Pv (i + 1), fun σ' H' p' => ⟨n - (i + 1), by omega, rfl, hlt, p'⟩, fun x H' y => ?_⟩
    obtain ⟨e, y⟩ := y
    subst e y
    exact hs i σ _ hlt p
  · have e : i = n := by omega
    subst e
    exact .inl ⟨Nat.le_refl _, hd σ H p⟩
end L2
namespace L2
open PySem PySem.Spec PyProof.Rows
abbrev R2 := V → V → Hp → VK → Prop
def OpR (X : Cx) (f : Value → Value → Sem Value) (r : R2) : Prop :=
  ∀ (pins : List (Addr × Obj)) (s : Shared) (σ : St) (H : Hp) (x y : V) (v u : Value) (Q : VK), Inv X pins σ H s → RelV x v → RelV y u → r x y H Q →
    wpAny (model X.prog X.w) X.A (f v u) (EP X pins σ Q) X.xe s
def UnR (X : Cx) (f : Value → Sem Value) (r : V → Hp → VK → Prop) : Prop :=
  ∀ (pins : List (Addr × Obj)) (s : Shared) (σ : St) (H : Hp) (x : V) (v : Value) (Q : VK), Inv X pins σ H s → RelV x v → r x H Q →
    wpAny (model X.prog X.w) X.A (f v) (EP X pins σ Q) X.xe s
def CallR (X : Cx) (f : Value) (r : List V → Hp → VK → Prop) : Prop :=
  ∀ (pins : List (Addr × Obj)) (s : Shared) (σ : St) (H : Hp) (xs : List V) (us : List Value) (Q : VK), Inv X pins σ H s → Vals xs us → r xs H Q →
    wpAny (model X.prog X.w) X.A (call f us) (EP X pins σ Q) X.xe s
def TruR (X : Cx) (r : V → Hp → (Bool → Hp → Prop) → Prop) : Prop :=
  ∀ (pins : List (Addr × Obj)) (s : Shared) (σ : St) (H : Hp) (x : V) (v : Value) (Q : Bool → Hp → Prop), Inv X pins σ H s → RelV x v → r x H Q →
    wpAny (model X.prog X.w) X.A (truthy v) (TP X pins σ Q) X.xe s
def tOp (r : R2) (ta tb : TE) : TE := fun σ H Q => ta σ H fun x H1 => tb σ H1 fun y H2 => r x y H2 Q
def tUn (r : V → Hp → VK → Prop) (ta : TE) : TE := fun σ H Q => ta σ H fun x H1 => r x H1 Q
def rI (C : Int → Int → Prop) (g : Int → Int → V) : R2 := fun x y H Q => ∃ i j, x = .int i ∧ y = .int j ∧ C i j ∧ Q (g i j) H
def rI0 (g : Int → Int → V) : R2 := fun x y H Q => ∃ i j, x = .int i ∧ y = .int j ∧ Q (g i j) H
def rU (g : Int → V) : V → Hp → VK → Prop := fun x H Q => ∃ i, x = .int i ∧ Q (g i) H
section
variable {X : Cx} {a b c : Expr} {ta tb tc : TE} {pos : Pos}
theorem binT (ha : PE X a ta) (hb : PE X b tb) {pins : List (Addr × Obj)} {s : Shared} {σ : St} {H : Hp} {R : V → V → Hp → Prop} (I : Inv X pins σ H s)
    (h : ta σ H fun x H1 => tb σ H1 fun y H2 => R x y H2) {Q : Value → Shared → Prop} {f : Value → Value → Sem Value}
    (hf : ∀ v u s2 x y H2, Inv X pins σ H2 s2 → RelV x v → RelV y u → R x y H2 → wpAny (model X.prog X.w) X.A (f v u) Q X.xe s2) :
    wpAny (model X.prog X.w) X.A (eval a X.env) (fun v s₁ => wpAny (model X.prog X.w) X.A (eval b X.env) (fun u s₂ => wpAny (model X.prog X.w) X.A (f v u) Q X.xe s₂) X.xe s₁) X.xe s := by
  refine thnE (ha pins s σ H _ I h) fun v s1 x H1 I1 r1 q1 => ?_
  refine thnE (hb pins s1 σ H1 _ I1 q1) fun u s2 y H2 I2 r2 q2 => ?_
  exact hf v u s2 x y H2 I2 r1 r2 q2
theorem pe_op {op : Operator} {r : R2} (ho : OpR X (binaryOp op) r) (ha : PE X a ta) (hb : PE X b tb) : PE X (.BinOp a op b pos) (tOp r ta tb) := by
  intro pins s σ H Q I h
  exact wpAny_BinOp (binT ha hb I h fun v u s2 x y H2 I2 rx ry q => ho pins s2 σ H2 x y v u Q I2 rx ry q)
theorem pe_un {op : UnaryOp} {r : V → Hp → VK → Prop} (ho : UnR X (unaryOp op) r) (ha : PE X a ta) : PE X (.UnaryOp op a pos) (tUn r ta) := by
  intro pins s σ H Q I h
  exact UnaryOp_ (thnE (ha pins s σ H _ I h) fun v s1 x H1 I1 r1 q1 => ho pins s1 σ H1 x v Q I1 r1 q1)
theorem opI {f : Value → Value → Sem Value} {C : Int → Int → Prop} {g : Int → Int → Int}
    (rule : ∀ (i j : Int) (t u : Tok) (s : Shared) (Q : Value → Shared → Prop) (E : Value → Shared → Prop), C i j → Q (.int (g i j) s.toks) { s with toks := s.toks + 1 } → wpAny (model X.prog X.w) X.A (f (.int i t) (.int j u)) Q E s) :
    OpR X f (rI C fun i j => .int (g i j)) := by
  intro pins s σ H x y v u Q I rx ry h
  obtain ⟨i, j, rfl, rfl, hc, q⟩ := h
  obtain ⟨t, rfl⟩ := rx
  obtain ⟨t', rfl⟩ := ry
  exact rule i j t t' s _ _ hc ⟨.int (g i j), H, I.tok _, ⟨_, rfl⟩, q⟩
theorem opI0 {f : Value → Value → Sem Value} {g : Int → Int → Int}
    (rule : ∀ (i j : Int) (t u : Tok) (s : Shared) (Q : Value → Shared → Prop) (E : Value → Shared → Prop), Q (.int (g i j) s.toks) { s with toks := s.toks + 1 } → wpAny (model X.prog X.w) X.A (f (.int i t) (.int j u)) Q E s) :
    OpR X f (rI0 fun i j => .int (g i j)) := by
  intro pins s σ H x y v u Q I rx ry h
  obtain ⟨i, j, rfl, rfl, q⟩ := h
  obtain ⟨t, rfl⟩ := rx
  obtain ⟨t', rfl⟩ := ry
  exact rule i j t t' s _ _ ⟨.int (g i j), H, I.tok _, ⟨_, rfl⟩, q⟩
theorem opB0 {f : Value → Value → Sem Value} {g : Int → Int → Bool}
    (rule : ∀ (i j : Int) (t u : Tok) (s : Shared) (Q : Value → Shared → Prop) (E : Value → Shared → Prop), Q (.bool (g i j)) s → wpAny (model X.prog X.w) X.A (f (.int i t) (.int j u)) Q E s) :
    OpR X f (rI0 fun i j => .bl (g i j)) := by
  intro pins s σ H x y v u Q I rx ry h
  obtain ⟨i, j, rfl, rfl, q⟩ := h
  obtain ⟨t, rfl⟩ := rx
  obtain ⟨t', rfl⟩ := ry
  exact rule i j t t' s _ _ ⟨.bl (g i j), H, I, rfl, q⟩
def CDiv (i j : Int) : Prop := 0 < j ∧ j < 1073741824
def CPow (i j : Int) : Prop := 0 ≤ j ∧ j ≤ 1000000 ∧ i.natAbs < 2 ^ 64
def CMul (i j : Int) : Prop := (-(2 ^ 64) < i ∧ i < 2 ^ 64) ∨ (-(2 ^ 64) < j ∧ j < 2 ^ 64)
theorem CMul.ok {i j : Int} (h : CMul i j) : IntMulOk i j := by
  rcases h with ⟨h1, h2⟩ | ⟨h1, h2⟩
  · exact .of_left (intBits_le_64 h1 h2)
  · exact .of_right (intBits_le_64 h1 h2)
theorem op_add : OpR X (binaryOp .Add) (rI0 fun i j => .int (i + j)) := opI0 fun _ _ _ _ _ _ _ q => add_int q
theorem op_sub : OpR X (binaryOp .Sub) (rI0 fun i j => .int (i - j)) := opI0 fun _ _ _ _ _ _ _ q => sub_int q
theorem op_mul : OpR X (binaryOp .Mult) (rI CMul fun i j => .int (i * j)) := opI fun _ _ _ _ _ _ _ hc q => mul_int q hc.ok
theorem op_fdiv : OpR X (binaryOp .FloorDiv) (rI CDiv fun i j => .int (i / j)) := opI fun i j _ _ _ _ _ hc q => by
  have h1 : (0 : Int) < j := hc.1
  have h2 : j < 1073741824 := hc.2
  exact floordiv_int (by omega) (by rw [Int.fdiv_eq_ediv_of_nonneg i (by omega)]; exact q) (.inl (PyProof.noPylong_small (by omega)))
theorem op_mod : OpR X (binaryOp .Mod) (rI (fun _ j => 0 < j) fun i j => .int (i % j)) := opI fun i j _ _ _ _ _ hc q => by
  have h1 : (0 : Int) < j := hc
  exact mod_int' (by omega) (by rw [Int.fmod_eq_emod_of_nonneg i (by omega)]; exact q)
theorem op_modN : OpR X (binaryOp .Mod) (rI (fun _ j => j ≠ 0) fun i j => .int (i.fmod j)) := opI fun _ _ _ _ _ _ _ hc q => mod_int' hc q
theorem op_pow : OpR X (binaryOp .Pow) (rI CPow fun i j => .int (i ^ j.toNat)) := opI fun _ _ _ _ _ _ _ hc q => pow_int_small hc.1 hc.2.1 hc.2.2 q
theorem unI {f : Value → Sem Value} {g : Int → Int}
    (rule : ∀ (i : Int) (t : Tok) (s : Shared) (Q : Value → Shared → Prop) (E : Value → Shared → Prop), Q (.int (g i) s.toks) { s with toks := s.toks + 1 } → wpAny (model X.prog X.w) X.A (f (.int i t)) Q E s) :
    UnR X f (rU fun i => .int (g i)) := by
  intro pins s σ H x v Q I rx h
  obtain ⟨i, rfl, q⟩ := h
  obtain ⟨t, rfl⟩ := rx
  exact rule i t s _ _ ⟨.int (g i), H, I.tok _, ⟨_, rfl⟩, q⟩
theorem un_neg : UnR X (unaryOp .USub) (rU fun i => .int (-i)) := unI fun _ _ _ _ _ q => neg_int q
end
def scal : V → V → Bool
  | .non, .non => true | .non, .int _ => true | .int _, .non => true | .non, .bl _ => true | .bl _, .non => true | .non, .str _ => true | .str _, .non => true
  | .int _, .int _ => true | .bl _, .bl _ => true | .str _, .str _ => true | .byt _, .byt _ => true
  | .int _, .str _ => true | .str _, .int _ => true | .bl _, .str _ => true | .str _, .bl _ => true
  | _, _ => false
def rEq : R2 := fun x y H Q => scal x y = true ∧ Q (.bl (decide (x = y))) H
def rNe : R2 := fun x y H Q => scal x y = true ∧ Q (.bl (!decide (x = y))) H
theorem dec_int {i j : Int} : decide (V.int i = V.int j) = (i == j) := by
  rw [Bool.eq_iff_iff]
  simp
theorem dec_bl {i j : Bool} : decide (V.bl i = V.bl j) = (i == j) := by
  rw [Bool.eq_iff_iff]
  simp
theorem dec_str {i j : Str} : decide (V.str i = V.str j) = (i == j) := by
  rw [Bool.eq_iff_iff]
  simp
theorem dec_byt {i j : Array UInt8} : decide (V.byt i = V.byt j) = (i.toList == j.toList) := by
  rw [Bool.eq_iff_iff]
  cases i
  cases j
  simp
section
variable {X : Cx} {a b c : Expr} {ta tb tc : TE} {pos : Pos}
theorem fin_bl {pins : List (Addr × Obj)} {σ : St} {H : Hp} {s : Shared} {Q : VK} {k k' : Bool} (I : Inv X pins σ H s) (q : Q (.bl k) H) (e : k = k') : EP X pins σ Q (.bool k') s := by
  subst e
  exact ⟨.bl k, H, I, rfl, q⟩
theorem op_eq : OpR X (compareOp .Eq) rEq := by
  intro pins s σ H x y v u Q I rx ry h
  obtain ⟨hs, q⟩ := h
  cases x with
  | non =>
    cases rx
    cases y with
    | non => cases ry; exact PySem.EqNone.eq_none_none (fin_bl I q (by simp))
    | bl j => cases ry; exact PySem.EqNone.eq_none_bool (fin_bl I q (by simp))
    | int j => obtain ⟨t', rfl⟩ := ry; exact PySem.EqNone.eq_none_int (fin_bl I q (by simp))
    | str j => obtain ⟨t', rfl⟩ := ry; exact PySem.EqNone.eq_none_str (fin_bl I q (by simp))
    | _ => exact absurd (show false = true from hs) Bool.false_ne_true
  | bl i =>
    cases rx
    cases y with
    | non => cases ry; exact PySem.EqNone.eq_bool_none (fin_bl I q (by simp))
    | bl j => cases ry; exact eq_bool (fin_bl I q dec_bl)
    | str j => obtain ⟨t', rfl⟩ := ry; exact PySem.EqMixed.eq_bool_str (fin_bl I q (by simp))
    | _ => exact absurd (show false = true from hs) Bool.false_ne_true
  | int i =>
    obtain ⟨t, rfl⟩ := rx
    cases y with
    | non => cases ry; exact PySem.EqNone.eq_int_none (fin_bl I q (by simp))
    | int j => obtain ⟨t', rfl⟩ := ry; exact eq_int (fin_bl I q dec_int)
    | str j => obtain ⟨t', rfl⟩ := ry; exact PySem.EqMixed.eq_int_str (fin_bl I q (by simp))
    | _ => exact absurd (show false = true from hs) Bool.false_ne_true
  | str i =>
    obtain ⟨t, rfl⟩ := rx
    cases y with
    | non => cases ry; exact PySem.EqNone.eq_str_none (fin_bl I q (by simp))
    | bl j => cases ry; exact PySem.EqMixed.eq_str_bool (fin_bl I q (by simp))
    | int j => obtain ⟨t', rfl⟩ := ry; exact PySem.EqMixed.eq_str_int (fin_bl I q (by simp))
    | str j => obtain ⟨t', rfl⟩ := ry; exact eq_str (fin_bl I q dec_str)
    | _ => exact absurd (show false = true from hs) Bool.false_ne_true
  | byt i =>
    obtain ⟨t, rfl⟩ := rx
    cases y with
    | byt j => obtain ⟨t', rfl⟩ := ry; exact PySem.W.eq_bytes (fin_bl I q dec_byt)
    | _ => exact absurd (show false = true from hs) Bool.false_ne_true
  | _ => cases y <;> exact absurd (show false = true from hs) Bool.false_ne_true
theorem op_ne : OpR X (compareOp .NotEq) rNe := by
  intro pins s σ H x y v u Q I rx ry h
  obtain ⟨hs, q⟩ := h
  cases x with
  | non =>
    cases rx
    cases y with
    | non => cases ry; exact PySem.EqNone.ne_none_none (fin_bl I q (by simp))
    | bl j => cases ry; exact PySem.EqNone.ne_none_bool (fin_bl I q (by simp))
    | int j => obtain ⟨t', rfl⟩ := ry; exact PySem.EqNone.ne_none_int (fin_bl I q (by simp))
    | str j => obtain ⟨t', rfl⟩ := ry; exact PySem.EqNone.ne_none_str (fin_bl I q (by simp))
    | _ => exact absurd (show false = true from hs) Bool.false_ne_true
  | bl i =>
    cases rx
    cases y with
    | non => cases ry; exact PySem.EqNone.ne_bool_none (fin_bl I q (by simp))
    | bl j => cases ry; exact ne_bool (fin_bl I q (congrArg not dec_bl))
    | str j => obtain ⟨t', rfl⟩ := ry; exact PySem.EqMixed.ne_bool_str (fin_bl I q (by simp))
    | _ => exact absurd (show false = true from hs) Bool.false_ne_true
  | int i =>
    obtain ⟨t, rfl⟩ := rx
    cases y with
    | non => cases ry; exact PySem.EqNone.ne_int_none (fin_bl I q (by simp))
    | int j => obtain ⟨t', rfl⟩ := ry; exact ne_int (fin_bl I q (congrArg not dec_int))
    | str j => obtain ⟨t', rfl⟩ := ry; exact PySem.EqMixed.ne_int_str (fin_bl I q (by simp))
    | _ => exact absurd (show false = true from hs) Bool.false_ne_true
  | str i =>
    obtain ⟨t, rfl⟩ := rx
    cases y with
    | non => cases ry; exact PySem.EqNone.ne_str_none (fin_bl I q (by simp))
    | bl j => cases ry; exact PySem.EqMixed.ne_str_bool (fin_bl I q (by simp))
    | int j => obtain ⟨t', rfl⟩ := ry; exact PySem.EqMixed.ne_str_int (fin_bl I q (by simp))
    | str j => obtain ⟨t', rfl⟩ := ry; exact ne_str (fin_bl I q (congrArg not dec_str))
    | _ => exact absurd (show false = true from hs) Bool.false_ne_true
  | byt i =>
    obtain ⟨t, rfl⟩ := rx
    cases y with
    | byt j => obtain ⟨t', rfl⟩ := ry; exact PySem.W.ne_bytes (fin_bl I q (congrArg not dec_byt))
    | _ => exact absurd (show false = true from hs) Bool.false_ne_true
  | _ => cases y <;> exact absurd (show false = true from hs) Bool.false_ne_true
theorem op_lt : OpR X (compareOp .Lt) (rI0 fun i j => .bl (decide (i < j))) := opB0 fun _ _ _ _ _ _ _ q => lt_int q
theorem op_le : OpR X (compareOp .LtE) (rI0 fun i j => .bl (decide (i ≤ j))) := opB0 fun _ _ _ _ _ _ _ q => le_int q
theorem op_gt : OpR X (compareOp .Gt) (rI0 fun i j => .bl (decide (j < i))) := opB0 fun _ _ _ _ _ _ _ q => gt_int q
theorem nomark (b : Expr) {op : CmpOp} (h : op ≠ .In := by decide) (h2 : op ≠ .NotIn := by decide) : behindInMarks op b = false := by
  have e1 : (op == CmpOp.In) = false := by cases op <;> first | rfl | exact absurd rfl h
  have e2 : (op == CmpOp.NotIn) = false := by cases op <;> first | rfl | exact absurd rfl h2
  cases b <;> simp [behindInMarks, e1, e2]
theorem pe_cmpR {op : CmpOp} {r : R2} (ho : OpR X (compareOp op) r) (ha : PE X a ta) (hb : PE X b tb) (hm : behindInMarks op b = false) : PE X (.Compare a [op] [b] pos) (tOp r ta tb) := by
  intro pins s σ H Q I h
  exact wpAny_Compare1 (binT ha hb I h fun v u s2 x y H2 I2 rx ry q => ho pins s2 σ H2 x y v u Q I2 rx ry q) hm
def tTest (t : TE) : TT := fun σ H Q => t σ H fun x H' => ∃ k, x = .bl k ∧ Q k H'
theorem pt_cmpR {op : CmpOp} {r : R2} (ho : OpR X (compareOp op) r) (ha : PE X a ta) (hb : PE X b tb) (hm : behindInMarks op b = false) : PT X (.Compare a [op] [b] pos) (tTest (tOp r ta tb)) := by
  intro pins s σ H Q I h
  refine wpAny_isTrue_Compare1 (thnE (ha pins s σ H _ I h) fun v s1 x H1 I1 r1 q1 => thnE (hb pins s1 σ H1 _ I1 q1) fun u s2 y H2 I2 r2 q2 =>
    thnE (ho pins s2 σ H2 x y v u _ I2 r1 r2 q2) fun c s3 z H3 I3 r3 ⟨k, e, q3⟩ => ?_) hm
  subst e
  cases r3
  exact wpAny_truthy_bool ⟨H3, I3, q3⟩
def tChain (r r' : R2) (ta tb tc : TE) : TE := fun σ H Q => ta σ H fun x H1 => tb σ H1 fun y H2 => r x y H2 fun z H3 => ∃ k, z = .bl k ∧
  (if k = true then tc σ H3 fun w' H4 => r' y w' H4 Q else Q (.bl false) H3)
theorem pe_chain {op op' : CmpOp} {r r' : R2} (ho : OpR X (compareOp op) r) (ho' : OpR X (compareOp op') r') (ha : PE X a ta) (hb : PE X b tb) (hc : PE X c tc)
    (hm : lastMarks [op, op'] [b, c] = false := by with_unfolding_all rfl) : PE X (.Compare a [op, op'] [b, c] pos) (tChain r r' ta tb tc) := by
  intro pins s σ H Q I h
  refine Compare_chain (thnE (ha pins s σ H _ I h) fun v s1 x H1 I1 r1 q1 => chain_link (thnE (hb pins s1 σ H1 _ I1 q1) fun u s2 y H2 I2 r2 q2 =>
    thnE (ho pins s2 σ H2 x y v u _ I2 r1 r2 q2) fun d s3 z H3 I3 r3 ⟨k, e, q3⟩ => ?_)) hm
  subst e
  cases r3
  refine wpAny_truthy_bool ?_
  cases k with
  | false => exact ite_ff ⟨.bl false, H3, I3, rfl, q3⟩
  | true => exact ite_tt (chain_last (thn (hc pins s3 σ H3 _ I3 q3) fun w' s4 ⟨z', H4, I4, r4, q4⟩ => ho' pins s4 σ H4 y z' u w' Q I4 r2 r4 q4))
theorem pt_chain {op op' : CmpOp} {r r' : R2} (ho : OpR X (compareOp op) r) (ho' : OpR X (compareOp op') r') (ha : PE X a ta) (hb : PE X b tb) (hc : PE X c tc)
    (hm : lastMarks [op, op'] [b, c] = false := by with_unfolding_all rfl) : PT X (.Compare a [op, op'] [b, c] pos) (tTest (tChain r r' ta tb tc)) := by
  intro pins s σ H Q I h
  refine isTrue_chain (thnE (ha pins s σ H _ I h) fun v s1 x H1 I1 r1 q1 => test_link (thnE (hb pins s1 σ H1 _ I1 q1) fun u s2 y H2 I2 r2 q2 =>
    thnE (ho pins s2 σ H2 x y v u _ I2 r1 r2 q2) fun d s3 z H3 I3 r3 ⟨k, e, q3⟩ => ?_)) hm
  subst e
  cases r3
  refine wpAny_truthy_bool ?_
  cases k with
  | false =>
    obtain ⟨k', e', q'⟩ := q3
    cases e'
    exact ite_ff ⟨H3, I3, q'⟩
  | true =>
    refine ite_tt (test_last (thn (hc pins s3 σ H3 _ I3 q3) fun w' s4 ⟨z', H4, I4, r4, q4⟩ => thn (ho' pins s4 σ H4 y z' u w' _ I4 r2 r4 q4) fun d' s5 ⟨z2, H5, I5, r5, k2, e2, q5⟩ => ?_))
    subst e2
    cases r5
    exact wpAny_truthy_bool ⟨H5, I5, q5⟩
def TruV (K : PySem.W.Frag) (x : V) (H : Hp) (k : Bool) : Prop :=
  match x with
  | .non => k = false
  | .bl b => k = b
  | .int i => k = (i != 0)
  | .str y => y.length ≤ sizeLine ∧ k = ((y.length : Int) != 0)
  | .byt y => y.size ≤ sizeLine ∧ k = ((y.size : Int) != 0)
  | .ref p => (∃ xs, SqL K H p xs ∧ k = !xs.isEmpty) ∨ (∃ xs, SqT K H p xs ∧ k = !xs.isEmpty) ∨ ∃ kvs, H p = some (.dK kvs) ∧ k = !kvs.isEmpty
  | _ => False
theorem isEmpty_kv {κ : Type} {kvs : List (κ × V)} {vs : List (κ × Value)} (r : KV kvs vs) : (!vs.isEmpty) = !kvs.isEmpty := by
  cases r <;> rfl
theorem isEmpty_of {xs : List V} {its : List Value} (r : Vals xs its) : (!its.toArray.isEmpty) = !xs.isEmpty := by
  cases r <;> simp
theorem line63 : (sizeLine : Nat) < 2 ^ 63 := by rw [sizeLine_eq]; decide
theorem tru_ok : TruR X (fun x H Q => ∃ k, TruV X.K x H k ∧ Q k H) := by
  intro pins s σ H x v Q I rx h
  obtain ⟨k, e, q⟩ := h
  have hl := line63
  have hs : sizeLine = 16777216 := sizeLine_eq
  cases x with
  | non =>
    cases rx
    have e' : k = false := e
    subst e'
    exact truthy_none ⟨H, I, q⟩
  | bl b =>
    cases rx
    have e' : k = b := e
    subst e'
    exact wpAny_truthy_bool ⟨H, I, q⟩
  | int i =>
    obtain ⟨t, rfl⟩ := rx
    have e' : k = (i != 0) := e
    subst e'
    exact PySem.P.truthy_int ⟨H, I, q⟩
  | str y =>
    obtain ⟨t, rfl⟩ := rx
    obtain ⟨hy, e'⟩ : y.length ≤ sizeLine ∧ k = ((y.length : Int) != 0) := e
    subst e'
    exact PySem.P.truthy_str (by omega) ⟨H, I.tok _, q⟩
  | byt y =>
    obtain ⟨t, rfl⟩ := rx
    obtain ⟨hy, e'⟩ : y.size ≤ sizeLine ∧ k = ((y.size : Int) != 0) := e
    subst e'
    exact PySem.W.truthy_bytes (by omega) ⟨H, I.tok _, q⟩
  | ref p =>
    cases rx
    have e' : (∃ xs, SqL X.K H p xs ∧ k = !xs.isEmpty) ∨ (∃ xs, SqT X.K H p xs ∧ k = !xs.isEmpty) ∨ ∃ kvs, H p = some (.dK kvs) ∧ k = !kvs.isEmpty := e
    rcases e' with ⟨xs, hx, e'⟩ | ⟨xs, hx, e'⟩ | ⟨kvs, hx, e'⟩
    · subst e'
      obtain ⟨its, r, pl, hz⟩ := I.list hx
      have hlen := r.length
      exact wpAny_truthy_list pl.isList (by simp only [List.size_toArray]; omega) ⟨H, I.tok _, by rw [isEmpty_of r]; exact q⟩
    · subst e'
      obtain ⟨its, r, pl, hz⟩ := I.tuple hx
      have hlen := r.length
      exact truthy_tuple pl (by simp only [List.size_toArray]; omega) ⟨H, I.tok _, by rw [isEmpty_of r]; exact q⟩
    · subst e'
      obtain ⟨hz, hS, vs, r, m⟩ : kvs.length ≤ sizeLine ∧ (p == sysModules) = false ∧ ∃ vs, KV kvs vs ∧ s.heap.DictOf (mixKind X.prog X.w) p vs := I.hok p _ hx
      have hlen : kvs.length = vs.length := Paired.length r
      exact wpAny_truthy_dict hS m (by omega) ⟨H, I.tok _, by rw [isEmpty_kv r]; exact q⟩
  | _ => exact (show False from e).elim
theorem pt_truth (ha : PE X a ta) (he : ∀ whole, isTrue a X.env whole = (do let v ← whole; standAt a.pos; holding [v] (truthy v))) :
    PT X a (fun σ H Q => ta σ H fun x H' => ∃ k, TruV X.K x H' k ∧ Q k H') := by
  intro pins s σ H Q I h
  exact isTrue_plain (thnE (ha pins s σ H _ I h) fun v s1 x H1 I1 r1 q1 => tru_ok pins s1 σ H1 x v Q I1 r1 q1) (he _)
theorem vals1 {x : V} {us : List Value} (r : Vals [x] us) : ∃ u, us = [u] ∧ RelV x u := by
  cases r with
  | cons r1 r2 => cases r2; exact ⟨_, rfl, r1⟩
theorem vals2 {x y : V} {us : List Value} (r : Vals [x, y] us) : ∃ u w', us = [u, w'] ∧ RelV x u ∧ RelV y w' := by
  cases r with
  | cons r1 r2 =>
    cases r2 with
    | cons r3 r4 => cases r4; exact ⟨_, _, rfl, r1, r3⟩
theorem call_abs : CallR X (.builtin "abs") (fun xs H Q => ∃ i, xs = [.int i] ∧ Q (.int (if i < 0 then -i else i)) H) := by
  intro pins s σ H xs us Q I r h
  obtain ⟨i, rfl, q⟩ := h
  obtain ⟨u, rfl, t, rfl⟩ := vals1 r
  exact call_abs_int fun u tk => ⟨.int (if i < 0 then -i else i), H, I.tok _, ⟨_, rfl⟩, q⟩
theorem call_int1 : CallR X (.type "int") (fun xs H Q => (∃ i, xs = [.int i] ∧ Q (.int i) H) ∨ ∃ k, xs = [.bl k] ∧ Q (.int (if k then 1 else 0)) H) := by
  intro pins s σ H xs us Q I r h
  rcases h with ⟨i, rfl, q⟩ | ⟨k, rfl, q⟩
  · obtain ⟨u, rfl, t, rfl⟩ := vals1 r
    exact call_int_int ⟨.int i, H, I, ⟨_, rfl⟩, q⟩
  · obtain ⟨u, rfl, r1⟩ := vals1 r
    cases r1
    exact call_int_bool ⟨.int (if k then 1 else 0), H, I.tok _, ⟨_, rfl⟩, q⟩
end
end L2
namespace L2
open PySem PySem.Spec PyProof.Rows
structure ObjM (h : Heap) (x dx C : Addr) (mA : Str → Option Value) : Prop where
  obj : h.get? x = some (PySem.W.instObj C dx)
  ns : h.Ns1 dx mA
  ne : dx ≠ x
theorem lookIn_ns {h : Heap} {dx : Addr} {mA : Str → Option Value} (n : h.Ns1 dx mA) : ∃ od, h.get? dx = some od ∧ ∀ name, PySem.W.lookIn name od = some (mA name) := by
  obtain ⟨o, es, ep, ho, hd, hk, _, hm⟩ := n
  refine ⟨o, ho, fun name => ?_⟩
  have e := hm name
  unfold nsFind findBy at e
  rw [← Array.find?_toList] at e
  unfold PySem.W.lookIn
  rw [hd]
  dsimp only
  split
  · rename_i y q
    rw [q] at e
    exact congrArg some e
  · rename_i q
    rw [q] at e
    have a : es.toList.any (·.refKey) = false := by
      rw [List.any_eq_false]
      intro y hy
      obtain ⟨z, t, hkey⟩ := hk y (Array.mem_toList_iff.mp hy)
      simp [DictEntry.refKey, hkey]
    have a' : ¬ es.toList.any (·.refKey) = true := by rw [a]; exact Bool.false_ne_true
    rw [if_neg a']
    exact congrArg some e
theorem ObjM.look {h : Heap} {x dx C : Addr} {mA : Str → Option Value} (I : ObjM h x dx C mA) : ∃ od, PySem.W.InstAt h x (PySem.W.instObj C dx) C (some od) ∧ ∀ name, PySem.W.lookIn name od = some (mA name) :=
  let ⟨od, ho, hl⟩ := lookIn_ns I.ns
  ⟨od, ⟨I.obj, rfl, rfl, ho⟩, hl⟩
section
variable {prog : Program} {w : World} {A : Around} {E : Value → Shared → Prop} {s : Shared} {K : PySem.W.Frag} {x dx C f : Addr} {mA : Str → Option Value} {name : Str} {v : Value}
theorem get_map {expr : Bool} {Q : Value → Shared → Prop} (X : K.In s.heap) (I : ObjM s.heap x dx C mA) (hg : PySem.W.plainGet K C name = true) (hh : PySem.W.hasDictIn K C = true)
    (ha : PySem.W.findIn K (.ref C) name = some none) (hv : mA name = some v) (hv' : PySem.W.handedIn v = true) (h : Q v { s with toks := s.toks + 1 }) :
    wpAny (model prog w) A (getAttr (.ref x) name expr) Q E s := by
  obtain ⟨od, J, hl⟩ := I.look
  exact PySem.W.get_value X J (PySem.W.plainGet_of hg).1 (PySem.W.findObj_own hh ha rfl (by rw [hl, hv])) hv' h
theorem set_map {ns : List Str} {Q : Unit → Shared → Prop} (X : K.In s.heap) (I : ObjM s.heap x dx C mA)
    (hs : PySem.W.findIn K (.ref C) "__setattr__" = some (some (.builtin "object.__setattr__"))) (hp : PySem.W.plainOver K C = true) (ht : PySem.W.takerIn K C name = some none) (hh : PySem.W.hasDictIn K C = true)
    (hw : PySem.Within mA ns) (hsz : ns.length ≤ sizeLine)
    (h : ∀ h', ObjM h' x dx C (fun y => if y = name then some v else mA y) → Heap.SameBut dx s.heap h' → Q () { s with heap := h', toks := s.toks + 2 }) :
    wpAny (model prog w) A (setAttr (.ref x) name v) Q E s := by
  obtain ⟨od, J, hl⟩ := I.look
  refine PySem.W.set_plain X J hs (PySem.W.osa_open (s := { s with toks := s.toks + 1 }) (r := none) X J hp ht fun b => ?_)
  obtain ⟨cd, hc, hd'⟩ := PySem.W.any_some hh
  have hx : s.heap.get? x = some ⟨.ref C, some dx, .plain, #[]⟩ := I.obj
  refine wpAny_bind (wpAny_pure (wpAny_bind (wpAny_bind (wpAny_loadPart hx (wpAny_bind (PySem.W.Looks.here (s := { s with toks := s.toks + 1 }) (PySem.W.looks_clsIn X hc) ?_))))))
  rw [hd']
  refine wpAny_pure (a := some dx) (wpAny_bind (wpAny_pure (wpAny_bind ?_)))
  refine wpAny_nsSet1 (s := { s with toks := s.toks + 1 }) I.ns fun h' hn2 hs2 => ?_
  obtain ⟨oD, esD, epD, hoD, hdD, hcD⟩ := hn2.count (PySem.Within.cons name v hw)
  refine wpAny_bind (wpAny_lookBehind hoD (by rw [hdD]; exact pastItsLine_dict (Nat.le_trans hcD (by rw [List.length_cons]; omega))) ?_)
  exact wpAny_pure (h _ ⟨(hs2.2 _ (Ne.symm I.ne)).trans I.obj, hn2, I.ne⟩ hs2)
theorem make_map {R : Result → Shared → Prop} {vs : List Value} {kw : List (Str × Value)} (X : K.In s.heap) (hm : PySem.W.makesIn K C = true)
    (hi : PySem.W.findIn K (.ref C) "__init__" = some (some (.ref f))) (hf : PySem.W.typeIn K (.ref f) = some (.type "function"))
    (h : codeAny (model prog w) (A.under (.builtin "type.__call__" ⟨.ref C :: vs, kw⟩)) (.call (.ref f) ⟨.ref (s.heap.objs.size + 1) :: vs, kw⟩) (PySem.W.InitBack (s.heap.objs.size + 1) R)
      { s with heap := (s.heap.push PySem.W.emptyDict).push (PySem.W.instObj C s.heap.objs.size) }) :
    codeAny (model prog w) A (.call (.ref C) ⟨vs, kw⟩) R s := by
  obtain ⟨hh, g, d, t, os⟩ := s
  exact PySem.W.make_core (PySem.W.makes_of X hm) (PySem.W.looks_findIn X hi) (fun self => PySem.W.bind_fn X self hf) (.inl rfl) h
end
def putF (f : Str) (v : V) : List (Str × V) → List (Str × V)
  | [] => [(f, v)]
  | (g, x) :: r => if g = f then (g, v) :: r else (g, x) :: putF f v r
theorem lookup_putF (f g : Str) (v : V) : ∀ fs : List (Str × V), (putF f v fs).lookup g = if g = f then some v else fs.lookup g
  | [] => by
    show List.lookup g [(f, v)] = _
    by_cases h : g = f
    · have hb : (g == f) = true := beq_iff_eq.mpr h
      simp only [List.lookup, hb, if_pos h]
    · have hb : (g == f) = false := beq_eq_false_iff_ne.mpr h
      simp only [List.lookup, hb, if_neg h]
  | (k, x) :: r => by
    have ih := lookup_putF f g v r
    rw [show putF f v ((k, x) :: r) = (if k = f then (k, v) :: r else (k, x) :: putF f v r) from rfl]
    by_cases hk : k = f
    · rw [if_pos hk]
      by_cases h : g = k
      · have hb : (g == k) = true := beq_iff_eq.mpr h
        simp only [List.lookup, hb, if_pos (h.trans hk)]
      · have hb : (g == k) = false := beq_eq_false_iff_ne.mpr h
        simp only [List.lookup, hb, if_neg (fun e : g = f => h (e.trans hk.symm))]
    · rw [if_neg hk]
      by_cases h : g = k
      · have hb : (g == k) = true := beq_iff_eq.mpr h
        simp only [List.lookup, hb, if_neg (fun e : g = f => hk (h.symm.trans e))]
      · have hb : (g == k) = false := beq_eq_false_iff_ne.mpr h
        simp only [List.lookup, hb]
        exact ih
theorem keys_putF (f : Str) (v : V) : ∀ fs : List (Str × V), f ∈ (putF f v fs).map (·.1) ∧ ∀ g, g ∈ fs.map (·.1) → g ∈ (putF f v fs).map (·.1)
  | [] => ⟨by simp [putF], fun g h => by simp at h⟩
  | (k, x) :: r => by
    obtain ⟨i1, i2⟩ := keys_putF f v r
    rw [show putF f v ((k, x) :: r) = (if k = f then (k, v) :: r else (k, x) :: putF f v r) from rfl]
    by_cases hk : k = f
    · rw [if_pos hk]
      subst hk
      exact ⟨by simp, fun g h => by simpa using h⟩
    · rw [if_neg hk]
      refine ⟨?_, fun g h => ?_⟩
      · rw [List.map_cons]
        exact List.mem_cons_of_mem _ i1
      · rw [List.map_cons] at h ⊢
        rcases List.mem_cons.mp h with e | e
        · exact List.mem_cons.mpr (.inl e)
        · exact List.mem_cons_of_mem _ (i2 g e)
theorem length_putF (f : Str) (v : V) : ∀ fs : List (Str × V), (putF f v fs).length ≤ fs.length + 1
  | [] => by simp [putF]
  | (k, x) :: r => by
    have ih := length_putF f v r
    rw [show putF f v ((k, x) :: r) = (if k = f then (k, v) :: r else (k, x) :: putF f v r) from rfl]
    by_cases hk : k = f
    · rw [if_pos hk, List.length_cons, List.length_cons]; omega
    · rw [if_neg hk, List.length_cons, List.length_cons]; omega
theorem RelO.some_of {v : V} {o : Option Value} (r : RelO (some v) o) : ∃ u, o = some u ∧ RelV v u := by
  cases o with
  | none => exact (show False from r).elim
  | some u => exact ⟨u, rfl, r⟩
theorem handed_of {v : V} {u : Value} (r : RelV v u) : PySem.W.handedIn u = true := by
  cases v with
  | non => cases (show u = Value.none from r); rfl
  | bl b => cases (show u = Value.bool b from r); rfl
  | int i => obtain ⟨t, e⟩ := (show ∃ t, u = Value.int i t from r); cases e; rfl
  | str x => obtain ⟨t, e⟩ := (show ∃ t, u = Value.str x t from r); cases e; rfl
  | byt b => obtain ⟨t, e⟩ := (show ∃ t, u = Value.bytes b t from r); cases e; rfl
  | flt b => obtain ⟨t, e⟩ := (show ∃ t, u = Value.float b t from r); cases e; rfl
  | ref a => cases (show u = Value.ref a from r); rfl
  | ty n => cases (show u = Value.type n from r); rfl
section
variable {P : Program} {w : World} {H H' : Hp} {h h' : Heap} {a C dx : Addr} {fs fs' : List (Str × V)}
theorem ins_get (hok : HOk P w H h) (e : H a = some (.ins C dx fs)) : ∃ mA, ObjM h a dx C mA ∧ (∀ f, RelO (fs.lookup f) (mA f)) ∧ PySem.Within mA (fs.map (·.1)) ∧ fs.length ≤ 1000 ∧ H dx = some (.own a) := by
  obtain ⟨d, z, ne, ob, mA, n, r, q⟩ := (show ObjOk P w H h a (.ins C dx fs) from hok a _ e)
  exact ⟨mA, ⟨ob, n, ne⟩, r, q, z, d⟩
end
structure Cls (K : PySem.W.Frag) (C : Addr) : Prop where
  pg : PySem.W.plainGet K C Str.empty = true
  hd : PySem.W.hasDictIn K C = true
  po : PySem.W.plainOver K C = true
  sa : PySem.W.findIn K (.ref C) "__setattr__" = some (some (.builtin "object.__setattr__"))
theorem Cls.get {K : PySem.W.Frag} {C : Addr} (c : Cls K C) (f : Str) : PySem.W.plainGet K C f = true := c.pg
def NoAttr (K : PySem.W.Frag) (C : Addr) (f : Str) : Prop := PySem.W.findIn K (.ref C) f = some none
theorem NoAttr.taker {K : PySem.W.Frag} {C : Addr} {f : Str} (n : NoAttr K C f) : PySem.W.takerIn K C f = some none := by
  unfold PySem.W.takerIn
  rw [show PySem.W.findIn K (.ref C) f = some none from n]
  rfl
section
variable {X : Cx} {pins : List (Addr × Obj)} {σ : St} {H : Hp} {s : Shared} {a C dx : Addr} {fs : List (Str × V)} {f : Str} {v : V} {A : Around} {E : Value → Shared → Prop}
theorem getattr_ok {b : Bool} {Q : Value → Shared → Prop} (I : Inv X pins σ H s) (e : H a = some (.ins C dx fs)) (c : Cls X.K C) (n : NoAttr X.K C f) (l : fs.lookup f = some v)
    (h : ∀ u s', Inv X pins σ H s' → RelV v u → Q u s') : wpAny (model X.prog X.w) A (getAttr (.ref a) f b) Q E s := by
  obtain ⟨mA, O, r, _, _, _⟩ := ins_get I.hok e
  obtain ⟨u, hu, ru⟩ := RelO.some_of (v := v) (o := mA f) (by rw [← l]; exact r f)
  exact get_map I.kIn O (c.get f) c.hd n hu (handed_of ru) (h u _ (I.tok _) ru)
theorem setattr_ok {y : V} {u : Value} {Q : Unit → Shared → Prop} (I : Inv X pins σ H s) (e : H a = some (.ins C dx fs)) (c : Cls X.K C) (n : NoAttr X.K C f) (hl : fs.length < 1000) (ry : RelV y u)
    (h : ∀ s', Inv X pins σ (upd H a (.ins C dx (putF f y fs))) s' → Q () s') : wpAny (model X.prog X.w) A (setAttr (.ref a) f u) Q E s := by
  obtain ⟨mA, O, r, wi, _, ho⟩ := ins_get I.hok e
  have hz : (fs.map (·.1)).length ≤ sizeLine := by rw [List.length_map, sizeLine_eq]; omega
  refine set_map I.kIn O c.sa c.po n.taker c.hd wi hz fun h' O' sb => h _ ?_
  have hd : ∃ o, h'.get? dx = some o := let ⟨o, _, _, e', _⟩ := O'.ns; ⟨o, e'⟩
  refine I.write (x := a) (e := dx) (by rw [e]; exact True.intro) (.inr ho) (fun b q hb z => (sb.2 b hb).trans z) hd ?_
  refine ⟨by rw [upd_ne O.ne]; exact ho, ?_, O.ne, O'.obj, _, O'.ns, fun g => ?_, fun g hg => ?_⟩
  · have := length_putF f y fs; omega
  · show RelO ((putF f y fs).lookup g) (if g = f then some u else mA g)
    rw [lookup_putF]
    by_cases q : g = f
    · rw [if_pos q, if_pos q]; exact ry
    · rw [if_neg q, if_neg q]; exact r g
  · by_cases q : g = f
    · rw [q]; exact (keys_putF f y fs).1
    · refine (keys_putF f y fs).2 g (wi g fun z => hg ?_)
      show (if g = f then some u else mA g) = none
      rw [if_neg q]; exact z
theorem Inv.made (I : Inv X pins σ H s) : Inv X pins σ (upd (upd H s.heap.objs.size (.own (s.heap.objs.size + 1))) (s.heap.objs.size + 1) (.ins C s.heap.objs.size []))
    { s with heap := (s.heap.push PySem.W.emptyDict).push (PySem.W.instObj C s.heap.objs.size) } := by
  have e1 : (s.heap.push PySem.W.emptyDict).get? s.heap.objs.size = some PySem.W.emptyDict := Heap.get?_push_size s.heap rfl
  have e2 : ((s.heap.push PySem.W.emptyDict).push (PySem.W.instObj C s.heap.objs.size)).get? (s.heap.objs.size + 1) = some (PySem.W.instObj C s.heap.objs.size) := by
    have := Heap.get?_push_size (s.heap.push PySem.W.emptyDict) (o := PySem.W.instObj C s.heap.objs.size) rfl
    rwa [Heap.size_push] at this
  have e3 : (s.heap.push PySem.W.emptyDict).Ns s.heap.objs.size (fun _ => none) := ⟨PySem.W.emptyDict, #[], _, e1, rfl, (fun e he => absurd he (by simp)), fun _ => rfl⟩
  have I1 := I.laid (a := s.heap.objs.size) (o := .own (s.heap.objs.size + 1)) (h' := s.heap.push PySem.W.emptyDict) (t' := s.toks) (fun b u q => Heap.get?_push_of_some _ q) (Nat.le_refl _) ⟨_, e1⟩
  refine I1.laid (a := s.heap.objs.size + 1) (o := .ins C s.heap.objs.size []) (t' := s.toks) (fun b u q => Heap.get?_push_of_some _ q) (Nat.le_of_eq (Heap.size_push _ _)) ?_
  have ne : s.heap.objs.size ≠ s.heap.objs.size + 1 := Nat.ne_of_lt (Nat.lt_succ_self _)
  refine ⟨by rw [upd_ne ne, upd_same], Nat.zero_le _, ne, e2, fun _ => none, (Heap.Ns1.of_empty e3).at fun o q => Heap.get?_push_of_some _ q, fun _ => True.intro, fun y hy => absurd rfl hy⟩
theorem attr_of {prog : Program} {w : World} {env : Env} {e : Expr} {f : Str} {pos : Pos} {s : Shared} {Q : Value → Shared → Prop} (hb : attributeBase e f env (eval e env) = eval e env)
    (h : wpAny (model prog w) A (eval e env) (fun o s₁ => wpAny (model prog w) A (getAttr o f true) Q E s₁) E s) : wpAny (model prog w) A (eval (.Attribute e f pos) env) Q E s :=
  Attribute_any_ h (by rw [arm_eval_Attribute, hb])
end
def tFld (K : PySem.W.Frag) (ta : TE) (f : Str) : TE := fun σ H Q => ta σ H fun x H1 => ∃ a C dx fs v, x = .ref a ∧ H1 a = some (.ins C dx fs) ∧ Cls K C ∧ NoAttr K C f ∧ fs.lookup f = some v ∧ Q v H1
def sFld (K : PySem.W.Frag) (ta tv : TE) (f : Str) : TS := fun D σ H => tv σ H fun y H1 => ta σ H1 fun x H2 => ∃ a C dx fs, x = .ref a ∧ H2 a = some (.ins C dx fs) ∧ Cls K C ∧ NoAttr K C f ∧ fs.length < 1000 ∧
  D.nx σ (upd H2 a (.ins C dx (putF f y fs)))
section
variable {X : Cx} {o e value : Expr} {f : Str} {pos pos' tpos : Pos} {ta tv : TE}
theorem pe_fld (he : PE X e ta) (hb : attributeBase e f X.env (eval e X.env) = eval e X.env) : PE X (.Attribute e f pos) (tFld X.K ta f) := by
  intro pins s σ H Q I h
  refine attr_of hb (thnE (he pins s σ H _ I h) fun u s1 x H1 I1 rx ⟨a, C, dx, fs, v, ex, ea, c, n, l, q⟩ => ?_)
  subst ex
  obtain rfl : u = Value.ref a := rx
  exact getattr_ok I1 ea c n l fun u' s2 I2 ru => ⟨v, H1, I2, ru, q⟩
theorem ps_fld (ha : PE X o ta) (hv : PE X value tv) (hs : swapsWith value (some (.Attribute o f pos')) pos.line X.env = pure false) : PS X (.Assign [.Attribute o f pos'] value pos) (sFld X.K ta tv f) := by
  intro pins s σ H D I h
  refine plainObj_wpAny_Assign_Attribute (thnE (hv pins s σ H _ I h) fun u s1 y H1 I1 ry q => thnE (ha pins s1 σ H1 _ I1 q) fun ov s2 x H2 I2 rx ⟨a, C, dx, fs, ex, ea, c, n, l, q2⟩ => ?_) hs
  subst ex
  obtain rfl : ov = Value.ref a := rx
  exact setattr_ok I2 ea c n l ry fun s3 I3 => ⟨σ, _, I3, q2⟩
end
section
variable {X : Cx} {pins : List (Addr × Obj)} {σ : St} {H : Hp} {s : Shared} {A : Around} {E : Value → Shared → Prop} {Q : Value → Shared → Prop} {c : Value} {b : Bool}
inductive TyOf (K : PySem.W.Frag) (H : Hp) : V → Value → Prop where
  | non : TyOf K H .non (.type "NoneType")
  | bl (x : Bool) : TyOf K H (.bl x) (.type "bool")
  | int (i : Int) : TyOf K H (.int i) (.type "int")
  | str (x : Str) : TyOf K H (.str x) (.type "str")
  | flt (x : UInt64) : TyOf K H (.flt x) (.type "float")
  | lst {a : Addr} {xs : List V} (e : H a = some (.lst xs)) : TyOf K H (.ref a) (.type "list")
  | frz {a : Addr} {o : Obj} {xs : List V} (e : H a = some (.frz o (.lst xs))) : TyOf K H (.ref a) (.type "list")
  | tup {a : Addr} {xs : List V} (e : H a = some (.tup xs)) : TyOf K H (.ref a) (.type "tuple")
  | dK {a : Addr} {kvs : List (Key × V)} (e : H a = some (.dK kvs)) : TyOf K H (.ref a) (.type "dict")
  | dT {a : Addr} {kvs : List (List Key × V)} (e : H a = some (.dT kvs)) : TyOf K H (.ref a) (.type "dict")
  | ins {a C dx : Addr} {fs : List (Str × V)} (e : H a = some (.ins C dx fs)) (cl : Cls K C) (ha : PySem.W.findIn K (.ref C) "__class__" = some (some (.builtin "object.__class__")))
      (hn : PySem.W.specialIn K (.builtin "object.__class__") "__get__" = some (some (.builtin "getset_descriptor.__get__"))) (htk : PySem.W.takesIn K (.builtin "object.__class__") = some true)
      (hm : PySem.W.mroIn K C (.type "object") = some true) : TyOf K H (.ref a) (.ref C)
theorem isinst_ok {x : V} {u t : Value} (I : Inv X pins σ H s) (rx : RelV x u) (ty : TyOf X.K H x t) (e : PySem.W.kitOne X.K t c = some b) (h : ∀ tk, Q (.bool b) { s with toks := tk }) :
    wpAny (model X.prog X.w) A (call (.builtin "isinstance") [u, c]) Q E s := by
  cases ty with
  | non => cases (show u = Value.none from rx); exact PySem.W.kia_one PySem.W.kitx_none I.kIn True.intro e (fun z => nomatch z) h
  | bl y => cases (show u = Value.bool y from rx); exact PySem.W.kia_one PySem.W.kitx_bool I.kIn True.intro e (fun z => nomatch z) h
  | int i => obtain ⟨t, q⟩ := (show ∃ t, u = Value.int i t from rx); cases q; exact PySem.W.kia_one PySem.W.kitx_int I.kIn True.intro e (fun z => nomatch z) h
  | str y => obtain ⟨t, q⟩ := (show ∃ t, u = Value.str y t from rx); cases q; exact PySem.W.kia_one PySem.W.kitx_str I.kIn True.intro e (fun z => nomatch z) h
  | flt y => obtain ⟨t, q⟩ := (show ∃ t, u = Value.float y t from rx); cases q; exact PySem.W.kia_one PySem.W.kitx_float I.kIn True.intro e (fun z => nomatch z) h
  | @lst a xs ea =>
    cases (show u = Value.ref a from rx)
    obtain ⟨_, _, n, _, h1⟩ := (show ObjOk X.prog X.w H s.heap a (.lst xs) from I.hok a _ ea)
    exact PySem.W.kia_one PySem.W.kitx_list I.kIn ⟨_, h1, rfl⟩ e (fun z => nomatch z) h
  | @frz a ob xs ea =>
    cases (show u = Value.ref a from rx)
    obtain ⟨_, _, _, n, _, h1⟩ := (show ObjOk X.prog X.w H s.heap a (.frz ob (.lst xs)) from I.hok a _ ea)
    exact PySem.W.kia_one PySem.W.kitx_list I.kIn ⟨_, h1, rfl⟩ e (fun z => nomatch z) h
  | @tup a xs ea =>
    cases (show u = Value.ref a from rx)
    obtain ⟨_, _, _, p⟩ := (show ObjOk X.prog X.w H s.heap a (.tup xs) from I.hok a _ ea)
    obtain ⟨o, h1, h2, _⟩ := p
    exact PySem.W.kia_one PySem.W.kitx_tuple I.kIn ⟨o, h1, h2⟩ e (fun z => nomatch z) h
  | @dK a kvs ea =>
    cases (show u = Value.ref a from rx)
    obtain ⟨_, _, vs, _, p⟩ := (show ObjOk X.prog X.w H s.heap a (.dK kvs) from I.hok a _ ea)
    obtain ⟨o, es, ep, h1, h2, _⟩ := p
    exact PySem.W.kia_one PySem.W.kitx_dict I.kIn ⟨o, h1, h2.1⟩ e (fun z => nomatch z) h
  | @dT a kvs ea =>
    cases (show u = Value.ref a from rx)
    obtain ⟨_, _, xs, _, o, es, ep, h1, h2, _⟩ := (show ObjOk X.prog X.w H s.heap a (.dT kvs) from I.hok a _ ea)
    exact PySem.W.kia_one PySem.W.kitx_dict I.kIn ⟨o, h1, h2.1⟩ e (fun z => nomatch z) h
  | @ins a C dx fs ea cl ha hn htk hm =>
    cases (show u = Value.ref a from rx)
    obtain ⟨mA, O, _⟩ := ins_get I.hok ea
    obtain ⟨od, J, _⟩ := O.look
    exact PySem.W.kia_one (PySem.W.kitx_own (cl.get _) cl.hd ha hn htk hm) I.kIn J e (fun z => nomatch z) h
end
end L2
namespace L2
open PySem PySem.Spec PyProof.Rows
structure Room (k : Nat) (A : Around) : Prop where
  hd : A.handled = none
  dp : A.depth + 3 * k + 5 < recursionLimit
  un : A.units + 16 * k + 200 < cLine
theorem Room.mono {j k : Nat} {A : Around} (r : Room k A) (h : j ≤ k) : Room j A := ⟨r.hd, by have := r.dp; omega, by have := r.un; omega⟩
theorem Room.deeper {k : Nat} {A : Around} (r : Room (k + 1) A) (env : Env) : Room k (A.deeper env) :=
  ⟨r.hd, by have := r.dp; show A.depth + 1 + 3 * k + 5 < _; omega, by have := r.un; show A.units + 3 + 16 * k + 200 < _; omega⟩
theorem make_depth {A : Around} {C : Addr} {us : List Value} {kw : List (Str × Value)} : (A.under (.builtin "type.__call__" ⟨.ref C :: us, kw⟩)).depth = A.depth + 1 := by
  first | rfl | simp [Around.under, Code.weight, Code.isCreation, Code.isGuard, Code.isCaller, Code.frames, Code.isFrame, guardIds]
theorem make_units {A : Around} {C : Addr} {us : List Value} {kw : List (Str × Value)} : (A.under (.builtin "type.__call__" ⟨.ref C :: us, kw⟩)).units = A.units + 1 := by
  first | rfl | simp [Around.under, Code.cUnits, Code.frames, Code.isFrame]
theorem Room.make {k : Nat} {A : Around} (r : Room (k + 1) A) (C : Addr) (us : List Value) (kw : List (Str × Value)) : Room k (A.under (.builtin "type.__call__" ⟨.ref C :: us, kw⟩)) :=
  ⟨r.hd, by have := r.dp; rw [make_depth]; omega, by have := r.un; rw [make_units]; omega⟩
theorem Room.depth {k : Nat} {A : Around} (r : Room k A) : A.depth < recursionLimit := by have := r.dp; omega
theorem Room.units {k : Nat} {A : Around} (r : Room k A) : A.units + 64 < cLine := by have := r.un; omega
def tNil : TA := fun _ H Q => Q [] H
def tCons (ta : TE) (tr : TA) : TA := fun σ H Q => ta σ H fun x H1 => tr σ H1 fun xs H2 => Q (x :: xs) H2
section
variable {X : Cx} {e : Expr} {es : List Expr} {te : TE} {t : TA} {pos : Pos}
theorem pa_nil : PA X [] tNil := fun _ _ _ _ H Q I h => Calls.spliced_nil ⟨[], H, I, .nil, h⟩
theorem pa_cons (ha : PE X e te) (hr : PA X es t) (hs : starEach (e :: es) X.env = (false, eval e X.env) :: starEach es X.env := by rfl) : PA X (e :: es) (tCons te t) := by
  intro pos pins s σ H Q I h
  rw [hs]
  show wpAny _ _ (spliced ((false, eval e X.env) :: backTo pos (starEach es X.env))) _ _ s
  refine Calls.spliced_cons (thnE (ha pins s σ H _ I h) fun u s1 x H1 I1 r1 q1 => ?_)
  exact thnA (hr pos pins s1 σ H1 _ I1 q1) fun us s2 xs H2 I2 r2 q2 => ⟨x :: xs, H2, I2, .cons r1 r2, q2⟩
def tTup (t : TA) : TE := fun σ H Q => t σ H fun xs H1 => xs.length ≤ sizeLine ∧ ∀ p, H1 p = none → Q (.ref p) (upd H1 p (.tup xs))
def tLst (t : TA) : TE := fun σ H Q => t σ H fun xs H1 => xs.length ≤ sizeLine ∧ ∀ p, H1 p = none → Q (.ref p) (upd H1 p (.lst xs))
theorem pe_tup {x1} (h : PA X es t) : PE X (.Tuple es x1 pos) (tTup t) := by
  intro pins s σ H Q I hq
  refine wpAny_Tuple_spliced (thnA (h pos pins s σ H _ I hq) fun us s1 xs H1 I1 r ⟨z, q⟩ => ⟨by rw [← r.length]; exact z, ?_⟩)
  have hf : H1 s1.heap.objs.size = none := I1.hok.fresh (Nat.le_refl _)
  refine ⟨.ref s1.heap.objs.size, upd H1 s1.heap.objs.size (.tup xs), I1.laid (t' := s1.toks) (fun b u e => Heap.get?_push_of_some _ e) (Nat.le_refl _) ?_, rfl, q _ hf⟩
  exact ⟨z, us, r, ⟨_, Heap.get?_push_size _ rfl, rfl, _, rfl⟩⟩
theorem pe_lst (h : PA X es t) : PE X (.List es pos) (tLst t) := by
  intro pins s σ H Q I hq
  refine wpAny_List_spliced (thnA (h pos pins s σ H _ I hq) fun us s1 xs H1 I1 r ⟨z, q⟩ => ⟨by rw [← r.length]; exact z, ?_⟩)
  have hf : H1 s1.heap.objs.size = none := I1.hok.fresh (Nat.le_refl _)
  refine ⟨.ref s1.heap.objs.size, upd H1 s1.heap.objs.size (.lst xs), I1.laid (t' := s1.toks) (fun b u e => Heap.get?_push_of_some _ e) (Nat.le_refl _) ?_, rfl, q _ hf⟩
  exact ⟨z, us, 0, r, Heap.get?_push_size _ rfl⟩
end
abbrev Sp := List V → Hp → VK → XK → Prop
abbrev CXT := List Env → Hp → Shared → XK → Value → Shared → Prop
structure Env0 (P : Program) (w : World) (K : PySem.W.Frag) (mg : Str → Option Value) (base : Heap) (A : Around) (outer : List Env) (s : Shared) (H : Hp) : Prop where
  frames : A.frames = some outer
  mod : Mod K mg base
  bs : ∀ b o, base.get? b = some o → s.heap.get? b = some o ∧ H b = none
  bsz : base.objs.size ≤ s.heap.objs.size
  funs : s.heap.FunFrames base outer
  frf : ∀ b ∈ frs outer, H b = none
  hok : HOk P w H s.heap
  bare : AllBare s.gens
def CE (outer : List Env) (P : Program) (w : World) (H : Hp) (s : Shared) (Q : VK) (u : Value) (s' : Shared) : Prop :=
  ∃ v H', s'.os = s.os ∧ AllBare s'.gens ∧ Un (frs outer) [] H H' s.heap s'.heap ∧ HOk P w H' s'.heap ∧ RelV v u ∧ Q v H'
def CR (CX : CXT) (outer : List Env) (P : Program) (w : World) (H : Hp) (s : Shared) (Q : VK) (E : XK) (r : Result) (s' : Shared) : Prop :=
  match r with
  | .ok (.ret u) => CE outer P w H s Q u s'
  | .ok _ => False
  | .error e => CX outer H s E e s'
structure FnOk (P : Program) (w : World) (K : PySem.W.Frag) (mg : Str → Option Value) (base : Heap) (CX : CXT) (k : Nat) (f : Addr) (fd : FuncData) (ps : List Str) (sp : Sp) : Prop where
  len : ∀ vs H Q E, sp vs H Q E → vs.length = ps.length
  run : ∀ (A : Around) (outer : List Env) (s : Shared) (H : Hp) (args : Args) (us : List Value) (vs : List V) (Q : VK) (E : XK), Room k A → Env0 P w K mg base A outer s H → BindsTo s fd args (ps.zip us) → Vals vs us → sp vs H Q E →
    codeAny (model P w) A (.call (.ref f) args) (CR CX outer P w H s Q E) s
theorem Env0.make {P : Program} {w : World} {K : PySem.W.Frag} {mg : Str → Option Value} {base : Heap} {A : Around} {outer : List Env} {s : Shared} {H : Hp} (e : Env0 P w K mg base A outer s H) (C : Addr) (us : List Value) (kw : List (Str × Value)) :
    Env0 P w K mg base (A.under (.builtin "type.__call__" ⟨.ref C :: us, kw⟩)) outer s H := ⟨by first | exact e.frames | (simpa [Around.under, Code.envs, Code.isFrame, pushEnvs] using e.frames), e.mod, e.bs, e.bsz, e.funs, e.frf, e.hok, e.bare⟩
section
variable {X : Cx} {pins : List (Addr × Obj)} {σ : St} {H : Hp} {s s' : Shared}
theorem Inv.env0 (I : Inv X pins σ H s) : Env0 X.prog X.w X.K X.mg X.base X.A X.stack s H :=
  ⟨I.ok.frames, I.ok.mod, I.bs, Nat.le_trans I.ok.bsz I.sz, I.stack, I.stkFree, I.hok, I.bare⟩
theorem Inv.after {Q : VK} {u : Value} (I : Inv X pins σ H s) (h : CE X.stack X.prog X.w H s Q u s') : EP X pins σ Q u s' := by
  obtain ⟨v, H', os, bare, un, hok, r, q⟩ := h
  obtain ⟨hh, g, d, t, os'⟩ := s'
  obtain rfl : os' = s.os := os
  exact ⟨v, H', I.call (h' := hh) (g' := g) (d' := d) (t' := t) (ch := []) un hok bare (fun b z => absurd z (by simp)), r, q⟩
end
def tCall (sp : Sp) (dvs : List V) (E : XK) (t : TA) : TE := fun σ H Q => t σ H fun vs H1 => sp (vs ++ dvs) H1 Q E
def tMake (C : Addr) (sp : Sp) (dvs : List V) (E : XK) (t : TA) : TE := fun σ H Q => t σ H fun vs H1 => ∀ x dx, H1 x = none → H1 dx = none → dx ≠ x →
  sp (.ref x :: (vs ++ dvs)) (upd (upd H1 dx (.own x)) x (.ins C dx [])) (fun v H2 => v = .non ∧ Q (.ref x) H2) E
def Binds (K : PySem.W.Frag) (fd : FuncData) (ps : List Str) (ds : List Value) : Prop :=
  ∀ (s : Shared) (us : List Value), K.In s.heap → (us ++ ds).length = ps.length → BindsTo s fd ⟨us, []⟩ (ps.zip (us ++ ds))
theorem Binds.all {K : PySem.W.Frag} {fd : FuncData} {ps : List Str} (h : ∀ us : List Value, us.length = ps.length → bindArgs fd ⟨us, []⟩ = pure (ps.zip us)) : Binds K fd ps [] := fun s us _ hl => by
  rw [List.append_nil] at hl ⊢
  exact .of_eq (h us hl)
def Passes (CX : CXT) (X : Cx) (E : XK) : Prop := ∀ (pins : List (Addr × Obj)) (σ : St) (H : Hp) (s : Shared) (e : Value) (s' : Shared), Inv X pins σ H s → CX X.stack H s E e s' → X.xe e s'
section
variable {X : Cx} {CX : CXT} {k : Nat} {f C : Addr} {fd : FuncData} {ps : List Str} {sp : Sp} {dvs : List V} {ds : List Value} {E : XK} {x m : Str} {p pos apos : Pos} {e o : Expr} {es : List Expr} {ta : TE} {t : TA}
theorem run_fn {pins : List (Addr × Obj)} {σ : St} {H : Hp} {s : Shared} {Q : VK} {us : List Value} {vs : List V} (F : FnOk X.prog X.w X.K X.mg X.base CX k f fd ps sp) (hr : Room k X.A) (hb : Binds X.K fd ps ds) (hd : Vals dvs ds) (hx : Passes CX X E)
    (I : Inv X pins σ H s) (r : Vals vs us) (h : sp (vs ++ dvs) H Q E) : wpAny (model X.prog X.w) X.A (call (.ref f) us) (EP X pins σ Q) X.xe s := by
  have r2 : Vals (vs ++ dvs) (us ++ ds) := r.append hd
  have hl : (us ++ ds).length = ps.length := by rw [← r2.length]; exact F.len _ _ _ _ h
  refine wpAny_call (codeAny_mono (F.run X.A X.stack s H ⟨us, []⟩ (us ++ ds) (vs ++ dvs) Q E hr I.env0 (hb s us I.kIn hl) r2 h) fun r s' hq => ?_)
  cases r with
  | error e => exact hx pins σ H s e s' I hq
  | ok fl =>
    cases fl with
    | ret u => exact I.after hq
    | next => exact False.elim hq
    | brk => exact False.elim hq
    | cont => exact False.elim hq
theorem pe_call (F : FnOk X.prog X.w X.K X.mg X.base CX k f fd ps sp) (hr : Room k X.A) (hg : Gl X x) (hm : X.mg x = some (.ref f)) (hk : PySem.W.keepIn X.K (.ref f) = true) (hb : Binds X.K fd ps ds) (hd : Vals dvs ds) (hx : Passes CX X E)
    (ha : PA X (e :: es) t) (hdb : (x == ("__debug__" : Str)) = false := by decide) (he : starEach (e :: es) X.env = (false, eval e X.env) :: starEach es X.env := by rfl) (hpl : (backTo pos (starEach es X.env)).any (·.1) = false := by rfl) :
    PE X (.Call (.Name x p) (e :: es) [] pos) (tCall sp dvs E t) := by
  intro pins s σ H Q I h
  refine wpAny_Call_Name_kw (ld_glob I hg hm ?_ hdb)
  refine PySem.W.callWith_K (h₀ := X.base) I.ok.mod.kin hk (thnA (ha pos pins s σ H _ I h) fun us s1 vs H1 I1 r q => ⟨I1.kIn, ?_⟩) he hpl
  exact run_fn F hr hb hd hx I1 r q
structure Mk (K : PySem.W.Frag) (C f : Addr) : Prop where
  makes : PySem.W.makesIn K C = true
  init : PySem.W.findIn K (.ref C) "__init__" = some (some (.ref f))
  fn : PySem.W.isFn K (.ref f) = true
  kp : PySem.W.keepIn K (.ref C) = true
theorem run_make {pins : List (Addr × Obj)} {σ : St} {H : Hp} {s : Shared} {Q : VK} {us : List Value} {vs : List V} (M : Mk X.K C f) (F : FnOk X.prog X.w X.K X.mg X.base CX k f fd ps sp) (hr : Room (k + 1) X.A) (hb : Binds X.K fd ps ds) (hd : Vals dvs ds)
    (hx : Passes CX X E) (I : Inv X pins σ H s) (r : Vals vs us)
    (h : ∀ x dx, H x = none → H dx = none → dx ≠ x → sp (.ref x :: (vs ++ dvs)) (upd (upd H dx (.own x)) x (.ins C dx [])) (fun v H2 => v = .non ∧ Q (.ref x) H2) E) :
    wpAny (model X.prog X.w) X.A (call (.ref C) us) (EP X pins σ Q) X.xe s := by
  have hq := h (s.heap.objs.size + 1) s.heap.objs.size (I.hok.fresh (Nat.le_succ _)) (I.hok.fresh (Nat.le_refl _)) (Nat.ne_of_lt (Nat.lt_succ_self _))
  have I2 := Inv.made (C := C) I
  have r2 : Vals (V.ref (s.heap.objs.size + 1) :: (vs ++ dvs)) (Value.ref (s.heap.objs.size + 1) :: (us ++ ds)) := .cons rfl (r.append hd)
  have hl : (Value.ref (s.heap.objs.size + 1) :: us ++ ds).length = ps.length := by
    have e := r2.length
    rw [F.len _ _ _ _ hq] at e
    exact e.symm
  refine wpAny_call (make_map (f := f) I.kIn M.makes M.init (beq_iff_eq.mp M.fn) (codeAny_mono (F.run _ X.stack _ _ ⟨Value.ref (s.heap.objs.size + 1) :: us, []⟩ (Value.ref (s.heap.objs.size + 1) :: (us ++ ds)) _ _ E (hr.make C us [])
    (I2.env0.make C us []) (hb _ (Value.ref (s.heap.objs.size + 1) :: us) I2.kIn hl) r2 hq) fun r s' hq' => ?_))
  cases r with
  | error e => exact hx pins σ _ _ e s' I2 hq'
  | ok fl =>
    cases fl with
    | ret u =>
      obtain ⟨v, H', I3, rv, ev, q3⟩ := I2.after hq'
      subst ev
      exact ⟨rv, ⟨V.ref (s.heap.objs.size + 1), H', I3, rfl, q3⟩⟩
    | next => exact False.elim hq'
    | brk => exact False.elim hq'
    | cont => exact False.elim hq'
theorem pe_make (M : Mk X.K C f) (F : FnOk X.prog X.w X.K X.mg X.base CX k f fd ps sp) (hr : Room (k + 1) X.A) (hg : Gl X x) (hm : X.mg x = some (.ref C)) (hb : Binds X.K fd ps ds) (hd : Vals dvs ds) (hx : Passes CX X E)
    (ha : PA X (e :: es) t) (hdb : (x == ("__debug__" : Str)) = false := by decide) (he : starEach (e :: es) X.env = (false, eval e X.env) :: starEach es X.env := by rfl) (hpl : (backTo pos (starEach es X.env)).any (·.1) = false := by rfl) :
    PE X (.Call (.Name x p) (e :: es) [] pos) (tMake C sp dvs E t) := by
  intro pins s σ H Q I h
  refine wpAny_Call_Name_kw (ld_glob I hg hm ?_ hdb)
  refine PySem.W.callWith_K (h₀ := X.base) I.ok.mod.kin M.kp (thnA (ha pos pins s σ H _ I h) fun us s1 vs H1 I1 r q => ⟨I1.kIn, ?_⟩) he hpl
  exact run_make M F hr hb hd hx I1 r q
end
section
variable {X : Cx} {CX : CXT} {k : Nat} {f C : Addr} {fd : FuncData} {ps ks : List Str} {sp : Sp} {E : XK} {x m : Str} {p pos apos kpos : Pos} {e o : Expr} {es : List Expr} {kws : List Keyword} {te ta : TE} {t tk : TA} {nm : Option Str}
variable {g : List Value → List Value → List Value} {gV : List V → List V → List V}
end
structure FnScope (N P : List Str) (sc : Scope) : Prop where
  kind : sc.kind = .function
  co : sc.isCoroutine = false
  gen : sc.isGenerator = false
  nd : N.Nodup
  pre : N.take P.length = P
  par : ∀ x ∈ P, sc.names.lookup x = some .local ∨ sc.names.lookup x = some .cell
  nofree : ∀ y ∈ sc.names, y.2 ≠ .free
theorem bindL_out {kindOf : Str → Option NameKind} {x : Str} : ∀ {binds : List (Str × Value)} {m : Str → Option Value}, (∀ v, (x, v) ∉ binds) → bindL kindOf binds m x = m x
  | [], _, _ => rfl
  | (n, v) :: r, m, h => by
    unfold bindL
    rw [bindL_out fun w hw => h w (List.mem_cons_of_mem _ hw)]
    split
    · have : x ≠ n := by rintro rfl; exact h v List.mem_cons_self
      simp [this]
    · rfl
theorem bindC_out {kindOf : Str → Option NameKind} {x : Str} : ∀ {binds : List (Str × Value)} {m : Str → Option Value}, (∀ v, (x, v) ∉ binds) → bindC kindOf binds m x = m x
  | [], _, _ => rfl
  | (n, v) :: r, m, h => by
    unfold bindC
    rw [bindC_out fun w hw => h w (List.mem_cons_of_mem _ hw)]
    split
    · rfl
    · have : x ≠ n := by rintro rfl; exact h v List.mem_cons_self
      simp [this]
theorem bindL_get {kindOf : Str → Option NameKind} {x : Str} {v : Value} : ∀ {P : List Str} {vs : List Value} {i : Nat} {m : Str → Option Value}, P.Nodup → P[i]? = some x → vs[i]? = some v → kindOf x = some .local →
    bindL kindOf (P.zip vs) m x = some v
  | [], _, _, _, _, h, _, _ => by simp at h
  | _ :: _, [], _, _, _, _, h, _ => by simp at h
  | p :: P, w :: vs, 0, m, nd, h1, h2, hk => by
    simp at h1 h2; subst h1; subst h2
    show bindL kindOf ((p, w) :: P.zip vs) m p = _
    unfold bindL
    rw [bindL_out fun v hv => (List.nodup_cons.mp nd).1 (List.of_mem_zip hv).1, if_pos hk]
    simp
  | p :: P, w :: vs, i + 1, m, nd, h1, h2, hk => by
    show bindL kindOf ((p, w) :: P.zip vs) m x = _
    unfold bindL
    exact bindL_get (i := i) (List.nodup_cons.mp nd).2 (by simpa using h1) (by simpa using h2) hk
theorem bindC_get {kindOf : Str → Option NameKind} {x : Str} {v : Value} : ∀ {P : List Str} {vs : List Value} {i : Nat} {m : Str → Option Value}, P.Nodup → P[i]? = some x → vs[i]? = some v → kindOf x ≠ some .local →
    bindC kindOf (P.zip vs) m x = some v
  | [], _, _, _, _, h, _, _ => by simp at h
  | _ :: _, [], _, _, _, _, h, _ => by simp at h
  | p :: P, w :: vs, 0, m, nd, h1, h2, hk => by
    simp at h1 h2; subst h1; subst h2
    show bindC kindOf ((p, w) :: P.zip vs) m p = _
    unfold bindC
    rw [bindC_out fun v hv => (List.nodup_cons.mp nd).1 (List.of_mem_zip hv).1, if_neg hk]
    simp
  | p :: P, w :: vs, i + 1, m, nd, h1, h2, hk => by
    show bindC kindOf ((p, w) :: P.zip vs) m x = _
    unfold bindC
    exact bindC_get (i := i) (List.nodup_cons.mp nd).2 (by simpa using h1) (by simpa using h2) hk
def start (N : List Str) (vs : List V) : St := vs.map some ++ List.replicate (N.length - vs.length) none
def cxOf (CX : CXT) (P : Program) (w : World) (K : PySem.W.Frag) (mg : Str → Option Value) (base : Heap) (N : List Str) (qual : Str) (scope : Scope) (f : Addr) (cd : Value) (A : Around) (outer : List Env) (s : Shared) (H : Hp) (E : XK) : Cx where
  prog := P
  w := w
  K := K
  mg := mg
  base := base
  A := A.deeper (envOfC qual scope s.heap.objs.size f cd)
  N := N
  s₀ := s
  H₀ := H
  env := envOfC qual scope s.heap.objs.size f cd
  outer := outer
  stack := envOfC qual scope s.heap.objs.size f cd :: outer
  ex := []
  calm := true
  fn := fun _ => true
  pn := []
  xe := fun e s' => wpAny (model P w) (A.deeper (envOfC qual scope s.heap.objs.size f cd)) (leaving (envOfC qual scope s.heap.objs.size f cd) e) (fun _ s'' => CX outer H s E e s'') (fun e' s'' => CX outer H s E e' s'') s'
theorem cell_has {sc : Scope} {n : Nat} {x : Str} (h : sc.names.lookup x = some .cell) : ∃ c, (cellsFrom n sc.names []).lookup x = some c := by
  have q := PySem.W.cellsFrom_some sc.names n [] (.inl h)
  exact Option.isSome_iff_exists.mp q
theorem inv_start {CX : CXT} {P : Program} {w : World} {K : PySem.W.Frag} {mg : Str → Option Value} {base : Heap} {N ps : List Str} {qual : Str} {scope : Scope} {f : Addr} {cd : Value} {A : Around} {outer : List Env} {s s1 : Shared} {H : Hp} {E : XK} {us : List Value} {vs : List V}
    (S : FnScope N ps scope) (hd : A.handled = none) (e0 : Env0 P w K mg base A outer s H) (hl : vs.length = ps.length) (r : Vals vs us)
    (x : InCallC s s.heap.objs.size (bindL (envOfC qual scope s.heap.objs.size f cd).kindOf (ps.zip us) fun _ => none) (cellsFrom (s.heap.objs.size + 1) scope.names []) (bindC (envOfC qual scope s.heap.objs.size f cd).kindOf (ps.zip us) fun _ => none) s1) :
    Inv (cxOf CX P w K mg base N qual scope f cd A outer s H E) [] (start N vs) H s1 := by
  have hpl : ps.length ≤ N.length := by have := congrArg List.length S.pre; rw [List.length_take] at this; omega
  obtain ⟨h1, tk, rfl, hk⟩ := x.done
  have noA : ∀ b : Addr, b ∉ (cxOf CX P w K mg base N qual scope f cd A outer s H E).ex := fun b z => absurd (show b ∈ ([] : List Addr) from z) (by simp)
  refine ⟨⟨e0.mod, S.kind, rfl, rfl, Nat.le_refl _, fun y z c h1 h2 => ?_, fun y hy => ?_, fun y c _ h => ?_, fun _ => hd, Around.frames_deeper e0.frames, .inr ⟨rfl, rfl⟩, fun b z => absurd z (noA b), e0.bs, e0.bsz, fun b _ _ => noA b, fun b z => absurd z (noA b), e0.funs, e0.frf⟩,
    rfl, e0.bare, Un.kept hk, ⟨_, x.toInCall.ns, fun i y v h1 h2 h3 => ?_⟩, fun y c h => ⟨_, x.cell y c h⟩, e0.hok.fresh (Nat.le_refl _), fun y c h => ?_, fun p hp => absurd (show p ∈ ([] : List (Addr × Obj)) from hp) (by simp), e0.hok.kept hk, ?_⟩
  · exact name_of_addr x.apart (PySem.mem_of_lookup h1) (PySem.mem_of_lookup h2)
  · have hy : scope.names.lookup y = some .cell ∨ scope.names.lookup y = some .free := hy
    rcases hy with hy | hy
    · exact cell_has hy
    · exact absurd rfl (S.nofree _ (PySem.mem_of_lookup hy))
  · exact Nat.le_of_lt (x.above y c (PySem.mem_of_lookup h))
  · have hi : i < vs.length := by
      unfold start at h2
      by_cases hi : i < vs.length
      · exact hi
      · rw [List.getElem?_append_right (by simpa using hi)] at h2
        rw [List.getElem?_replicate] at h2
        split at h2 <;> cases h2
    have ha : vs[i]? = some v := by
      unfold start at h2
      rw [List.getElem?_append_left (by simpa using hi), List.getElem?_map] at h2
      cases e : vs[i]? with
      | none => rw [e] at h2; cases h2
      | some a => rw [e] at h2; cases h2; rfl
    obtain ⟨u, hu, rv⟩ := r.get ha
    have hp : ps[i]? = some y := by
      rw [← S.pre, List.getElem?_take_of_lt (by omega)]; exact h1
    have ndP : ps.Nodup := by rw [← S.pre]; exact S.nd.sublist (List.take_sublist _ _)
    refine ⟨u, rv, ?_⟩
    rcases S.par y (List.mem_of_getElem? hp) with k | k
    · exact .inl ⟨k, bindL_get ndP hp hu k⟩
    · obtain ⟨c, e⟩ := cell_has (n := s.heap.objs.size + 1) k
      refine .inr ⟨.inl k, c, e, ?_⟩
      have q := x.cell y c e
      rw [bindC_get ndP hp hu (by show scope.names.lookup y ≠ _; rw [k]; decide)] at q
      exact q
  · exact e0.hok.fresh (Nat.le_of_lt (x.above y c (PySem.mem_of_lookup h)))
  · unfold start
    show _ = N.length
    rw [List.length_append, List.length_map, List.length_replicate]
    omega
theorem fn_of {CX : CXT} {P : Program} {w : World} {K : PySem.W.Frag} {mg : Str → Option Value} {base : Heap} {k : Nat} {f : Addr} {name qual : Str} {params : Arguments} {body : List Stmt} {scope : Scope} {dV kV doc pm cdv ct oc : Value} {an od : Option Addr}
    {osl : Array (Option Value)} {N ps : List Str} {sp : Sp} (lk : K.lookup f = some ⟨oc, od, .func (PySem.W.fnOf name qual params body scope dV kV doc pm an cdv ct), osl⟩) (hcd : PySem.W.codeIn K cdv qual = true) (S : FnScope N ps scope)
    (len : ∀ vs H Q E, sp vs H Q E → vs.length = ps.length)
    (hbody : ∀ (A : Around) (outer : List Env) (s : Shared) (H : Hp) (vs : List V) (Q : VK) (E : XK), Room k (A.deeper (envOfC qual scope s.heap.objs.size f cdv)) → sp vs H Q E →
      ∃ t, PSs (cxOf CX P w K mg base N qual scope f cdv A outer s H E) body t ∧ t { nx := fun _ H' => Q .non H', rt := Q } (start N vs) H) :
    FnOk P w K mg base CX (k + 1) f (PySem.W.fnOf name qual params body scope dV kV doc pm an cdv ct) ps sp := by
  refine ⟨len, fun A outer s H args us vs Q E hr e0 hb r hsp => ?_⟩
  have hl := len _ _ _ _ hsp
  have KX : K.In s.heap := e0.mod.kin.keeps fun b o e => (e0.bs b o e).1
  have lim : s.heap.NoLimit := e0.mod.nolimit.keeps fun b o e => (e0.bs b o e).1
  have hkind : ∀ y ∈ ps.zip us, scope.names.lookup y.1 = some .local ∨ (scope.names.lookup y.1 = some .cell ∧ ((cellsFrom (s.heap.objs.size + 1) scope.names []).lookup y.1).isSome = true) := fun ⟨n, v⟩ hy => by
    rcases S.par n (List.of_mem_zip hy).1 with q | q
    · exact .inl q
    · exact .inr ⟨q, PySem.W.cellsFrom_some _ _ _ (.inl q)⟩
  refine codeAny_call_function hr.depth (KX _ _ lk) rfl S.co S.gen rfl (PySem.W.codeRec_of KX hcd) (hb _ _ _ _ ?_)
  refine wpAny_newFunctionEnv_cells S.kind hkind fun env he s1 x => ?_
  subst he
  refine ⟨lim.keeps x.toInCall.keep, codeAny_func ?_⟩
  obtain ⟨t, ht, hq⟩ := hbody A outer s H vs Q E (hr.deeper _) hsp
  have I : Inv (cxOf CX P w K mg base N qual scope f cdv A outer s H E) [] (start N vs) H s1 := inv_start S hr.hd e0 hl r x
  refine wpAny_mono (ht [] s1 (start N vs) H _ I hq) (fun fl s' hs => ?_) fun e s' hs => hs
  have fin : ∀ {σ' : St} {H' : Hp} {v : V} {u : Value}, Inv (cxOf CX P w K mg base N qual scope f cdv A outer s H E) [] σ' H' s' → RelV v u → Q v H' → CE outer P w H s Q u s' :=
    fun {σ' H' v u} J rv q => ⟨v, H', J.os, J.bare, J.base, J.hok, rv, q⟩
  cases fl with
  | ret u =>
    obtain ⟨v, σ', H', J, rv, q⟩ := hs
    exact fin J rv q
  | next =>
    obtain ⟨σ', H', J, q⟩ := hs
    exact fin (v := V.non) (u := Value.none) J rfl q
  | brk =>
    obtain ⟨_, _, _, q⟩ := hs
    exact False.elim q
  | cont =>
    obtain ⟨_, _, _, q⟩ := hs
    exact False.elim q
end L2
namespace L2
open PySem PySem.Spec PyProof.Rows
section
variable {X : Cx} {x : Str} {p pos : Pos} {e : Expr} {es : List Expr} {t : TA} {id T : String} {r : List V → Hp → VK → Prop}
def tCB (r : List V → Hp → VK → Prop) (t : TA) : TE := fun σ H Q => t σ H fun vs H1 => r vs H1 Q
theorem pe_callB (hc : CallR X (.builtin id) r) (hg : Gl X x) (hm : X.mg x = none) (hv : bootBuiltins x = some (.builtin id)) (ha : PA X (e :: es) t) (hn : x ≠ "__name__" := by decide) (hdb : (x == ("__debug__" : Str)) = false := by decide)
    (he : starEach (e :: es) X.env = (false, eval e X.env) :: starEach es X.env := by rfl) (hpl : (backTo pos (starEach es X.env)).any (·.1) = false := by rfl) : PE X (.Call (.Name x p) (e :: es) [] pos) (tCB r t) := by
  intro pins s σ H Q I h
  refine wpAny_Call_Name_kw (ld_blt I hg hm hv ?_ hn hdb)
  exact PyProof.Rows.callWith_builtin1 (thnA (ha pos pins s σ H _ I h) fun us s1 vs H1 I1 r1 q1 => hc pins s1 σ H1 vs us Q I1 r1 q1) he hpl
theorem pe_callTy (hc : CallR X (.type T) r) (hg : Gl X x) (hm : X.mg x = none) (hv : bootBuiltins x = some (.type T)) (ha : PA X (e :: es) t) (hn : x ≠ "__name__" := by decide) (hdb : (x == ("__debug__" : Str)) = false := by decide)
    (he : starEach (e :: es) X.env = (false, eval e X.env) :: starEach es X.env := by rfl) (hpl : (backTo pos (starEach es X.env)).any (·.1) = false := by rfl) : PE X (.Call (.Name x p) (e :: es) [] pos) (tCB r t) := by
  intro pins s σ H Q I h
  refine wpAny_Call_Name_kw (ld_blt I hg hm hv ?_ hn hdb)
  exact PyProof.Rows.callWith_type1 (thnA (ha pos pins s σ H _ I h) fun us s1 vs H1 I1 r1 q1 => hc pins s1 σ H1 vs us Q I1 r1 q1) he hpl
end
end L2
namespace HT
open PySem PyProof.Rows
section
open PySem.SeqAt
open PySem.AutoSeq1 (wpAny_loadPart')
open PySem.MeetsSeq PySem.MeetsSeq2 PySem.MeetsSeq3
end
section
variable {prog : Program} {w : World} {A : Around} {E : Value → Shared → Prop} {s : Shared}
end
end HT
namespace L2
open PySem PySem.Spec PyProof.Rows
abbrev TO := St → Hp → (Option Int → Hp → Prop) → Prop
def PO (X : Cx) (e : Option Expr) (t : TO) : Prop :=
  ∀ (pins : List (Addr × Obj)) (s : Shared) (σ : St) (H : Hp) (Q : Option Int → Hp → Prop), Inv X pins σ H s → t σ H Q →
    wpAny (model X.prog X.w) X.A (evalPart e X.env) (fun u s' => ∃ o H', Inv X pins σ H' s' ∧ IsPart u o ∧ Q o H') X.xe s
section
variable {X : Cx} {e : Expr} {te : TE} {lo hi : Option Expr} {tl th : TO} {pos p2 : Pos}
end
end L2
namespace L2
open PySem PySem.Spec PyProof.Rows
def ixN (n : Nat) (i : Int) : Option Nat := if 0 ≤ i then (if i < n then some i.toNat else none) else if -(n : Int) ≤ i then some (i + n).toNat else none
def atI {α : Type} (xs : List α) (i : Int) : Option α := (ixN xs.length i).bind fun j => xs[j]?
theorem ixN_seq {n : Nat} {i : Int} {j : Nat} (h : ixN n i = some j) : seqIndex? i n = some j ∧ j < n ∧ -(n : Int) ≤ i ∧ i < n := by
  unfold ixN at h
  by_cases h0 : 0 ≤ i
  · rw [if_pos h0] at h
    by_cases h1 : i < n
    · rw [if_pos h1] at h
      have e : i.toNat = j := Option.some.inj h
      exact ⟨by rw [seqIndex_of h0 h1, e], by omega, by omega, h1⟩
    · rw [if_neg h1] at h; cases h
  · rw [if_neg h0] at h
    by_cases h1 : -(n : Int) ≤ i
    · rw [if_pos h1] at h
      have e : (i + n).toNat = j := Option.some.inj h
      exact ⟨by rw [seqIndex_neg (by omega) h1, e], by omega, h1, by omega⟩
    · rw [if_neg h1] at h; cases h
theorem atI_get {α : Type} {xs : List α} {i : Int} {v : α} (h : atI xs i = some v) : ∃ j, seqIndex? i xs.length = some j ∧ xs[j]? = some v ∧ j < xs.length ∧ -(xs.length : Int) ≤ i ∧ i < xs.length := by
  unfold atI at h
  cases e : ixN xs.length i with
  | none => rw [e] at h; cases h
  | some j =>
    rw [e] at h
    obtain ⟨h1, h2, h3, h4⟩ := ixN_seq e
    exact ⟨j, h1, h, h2, h3, h4⟩
theorem atI_nat {α : Type} {xs : List α} {j : Nat} {v : α} (h : xs[j]? = some v) : atI xs (j : Int) = some v := by
  have hj : j < xs.length := (List.getElem?_eq_some_iff.mp h).1
  have e : ixN xs.length (j : Int) = some j := by
    unfold ixN
    rw [if_pos (by omega), if_pos (by omega)]; simp
  unfold atI; rw [e]; exact h
def PlainIx (b : Expr) : Prop := ∀ o i, subscripted b false o i = operate [o, i] (getItem o i)
def IxR (X : Cx) (r : R2) : Prop :=
  ∀ (value slice : Expr) (pins : List (Addr × Obj)) (s : Shared) (σ : St) (H : Hp) (x y : V) (v u : Value) (Q : VK), Inv X pins σ H s → RelV x v → RelV y u → r x y H Q →
    subscripted slice false v u = operate [v, u] (getItem v u) → wpAny (model X.prog X.w) X.A (subscriptTail value slice v u) (EP X pins σ Q) X.xe s
def MtR (X : Cx) (id : String) (r : V → List V → Hp → VK → Prop) : Prop :=
  ∀ (pins : List (Addr × Obj)) (s : Shared) (σ : St) (H : Hp) (x : V) (xs : List V) (v : Value) (us : List Value) (Q : VK), Inv X pins σ H s → RelV x v → Vals xs us → r x xs H Q →
    wpAny (model X.prog X.w) X.A (call (.builtin id) (v :: us)) (EP X pins σ Q) X.xe s
section
variable {X : Cx} {a b : Expr} {ta tb : TE} {pos : Pos}
theorem pe_ix {r : R2} (hr : IxR X r) (ha : PE X a ta) (hb : PE X b tb) (hs : PlainIx b) : PE X (.Subscript a b pos) (tOp r ta tb) := by
  intro pins s σ H Q I h
  exact Subscript_ (binT ha hb I h fun v u s2 x y H2 I2 rx ry q => hr a b pins s2 σ H2 x y v u Q I2 rx ry q (hs _ _))
def rIxL (K : PySem.W.Frag) : R2 := fun x y H Q => ∃ p xs i v, x = .ref p ∧ y = .int i ∧ SqL K H p xs ∧ atI xs i = some v ∧ Q v H
def rIxT (K : PySem.W.Frag) : R2 := fun x y H Q => ∃ p xs i v, x = .ref p ∧ y = .int i ∧ SqT K H p xs ∧ atI xs i = some v ∧ Q v H
theorem ix_list : IxR X (rIxL X.K) := by
  intro value slice pins s σ H x y v u Q I rx ry h hs
  obtain ⟨p, xs, i, z, rfl, rfl, hq, he, q⟩ := h
  cases rx
  obtain ⟨t, rfl⟩ := ry
  obtain ⟨its, r, pl, hz⟩ := I.list hq
  obtain ⟨j, h1, h2, h3, h4, h5⟩ := atI_get he
  obtain ⟨w, ew, rw'⟩ := r.get h2
  have hl := r.length
  have hn := line63
  have fin : EP X pins σ Q w s := ⟨z, H, I, rw', q⟩
  by_cases h0 : 0 ≤ i
  · have hj : i.toNat = j := by
      rw [seqIndex_of h0 h5] at h1
      exact Option.some.inj h1
    exact item_listR pl.isList h0 (by omega) (by rw [hj]; simpa using ew) fin hs
  · have hj : (i + (its.toArray.size : Int)).toNat = j := by
      rw [seqIndex_neg (by omega) h4] at h1
      rw [List.size_toArray, ← hl]
      exact Option.some.inj h1
    exact subscriptTail_builtinR (x := w) pl.isList.typeIs slot_list_getitem.lookup
      (wpAny_getItem_list_neg (Q := fun r s' => r = w ∧ EP X pins σ Q r s') pl.isList (by omega) (by rw [List.size_toArray] <;> omega) (by omega) (by rw [hj]; simpa using ew) ⟨rfl, fin⟩) hs
theorem ix_tup : IxR X (rIxT X.K) := by
  intro value slice pins s σ H x y v u Q I rx ry h hs
  obtain ⟨p, xs, i, z, rfl, rfl, hq, he, q⟩ := h
  cases rx
  obtain ⟨t, rfl⟩ := ry
  obtain ⟨its, r, pl, hz⟩ := I.tuple hq
  obtain ⟨j, h1, h2, h3, h4, h5⟩ := atI_get he
  obtain ⟨w, ew, rw'⟩ := r.get h2
  have hl := r.length
  have hn := line63
  have fin : EP X pins σ Q w s := ⟨z, H, I, rw', q⟩
  exact subscriptTail_builtinR (x := w) pl.typeIs slot_tuple_getitem.lookup
    (getItem_tuple (j := j) (Q := fun r s' => r = w ∧ EP X pins σ Q r s') pl (by omega) (by omega) (by rw [List.size_toArray, ← hl]; exact h1) (by simpa using ew) ⟨rfl, fin⟩) hs
theorem mapSeq_set (its : List Value) (n j : Nat) (u : Value) : Obj.mapSeq (·.setIfInBounds j u) { cls := .type "list", data := .seq its.toArray n } = { cls := .type "list", data := .seq (its.set j u).toArray n } := by
  simp [Obj.mapSeq]
theorem Inv.lst {pins : List (Addr × Obj)} {σ : St} {H : Hp} {s : Shared} {p : Addr} {xs : List V} (I : Inv X pins σ H s) (h : H p = some (.lst xs)) :
    ∃ (its : List Value) (n : Nat), Vals xs its ∧ s.heap.get? p = some { cls := .type "list", data := .seq its.toArray n } ∧ xs.length ≤ sizeLine := by
  obtain ⟨z, its, n, r, e⟩ := I.hok p _ h
  exact ⟨its, n, r, e, z⟩
theorem Inv.lstUpd {pins : List (Addr × Obj)} {σ : St} {H : Hp} {s : Shared} {p : Addr} {xs ys : List V} {its its' : List Value} {n n' : Nat} {f : Obj → Obj} (I : Inv X pins σ H s) (h : H p = some (.lst xs))
    (ho : s.heap.get? p = some { cls := .type "list", data := .seq its.toArray n }) (hf : f { cls := .type "list", data := .seq its.toArray n } = { cls := .type "list", data := .seq its'.toArray n' }) (r : Vals ys its') (hz : ys.length ≤ sizeLine) (t : Nat) :
    Inv X pins σ (upd H p (.lst ys)) { s with heap := s.heap.update p f, toks := t } := by
  have e : (s.heap.update p f).get? p = some { cls := .type "list", data := .seq its'.toArray n' } := by
    rw [Heap.get?_update_self f ho (by rw [hf] <;> rfl), hf]
  refine I.write (x := p) (e := p) (by rw [h]; trivial) (.inl rfl) (fun b u hb q => (Heap.get?_update_other _ _ (Ne.symm hb)).trans q) ⟨_, e⟩ ?_
  exact ⟨hz, its', n', r, e⟩
def rSetL : V → V → V → Hp → (Hp → Prop) → Prop := fun o i v H Q => ∃ p xs k j, o = .ref p ∧ i = .int k ∧ H p = some (.lst xs) ∧ ixN xs.length k = some j ∧ Q (upd H p (.lst (xs.set j v)))
theorem set_list : PSet X rSetL := by
  intro pins s σ H o i v ov iv u Q I ro ri rv h
  obtain ⟨p, xs, k, j, rfl, rfl, hp, hj, q⟩ := h
  cases ro
  obtain ⟨t, rfl⟩ := ri
  obtain ⟨its, n, r, ho, hz⟩ := I.lst hp
  obtain ⟨h1, h2, h3, h4⟩ := ixN_seq hj
  have hl := r.length
  have hn := line63
  have I' : Inv X pins σ (upd H p (.lst (xs.set j v))) { s with heap := s.heap.update p (Obj.mapSeq (·.setIfInBounds j u)) } :=
    I.lstUpd hp ho (mapSeq_set its n j u) (r.set rv j) (by rw [List.length_set]; exact hz) s.toks
  by_cases h0 : 0 ≤ k
  · have hk : k.toNat = j := by
      rw [seqIndex_of h0 h4] at h1
      exact Option.some.inj h1
    exact PySem.W.ki_setAt ho h0 (by omega) (by rw [List.size_toArray, ← hl]; exact h4) (by rw [hk]; exact ⟨_, I', q⟩)
  · have hk : (k + (its.toArray.size : Int)).toNat = j := by
      rw [seqIndex_neg (by omega) h3] at h1
      rw [List.size_toArray, ← hl]
      exact Option.some.inj h1
    exact PySem.W.ki_setBack ho (by omega) (by rw [List.size_toArray, ← hl]; exact h3) (by omega) (by rw [hk]; exact ⟨_, I', q⟩)
theorem call_len_seq : CallR X (.builtin "len") (fun xs H Q => ∃ p ys, xs = [.ref p] ∧ (SqL X.K H p ys ∨ SqT X.K H p ys) ∧ Q (.int ys.length) H) := by
  intro pins s σ H xs us Q I r h
  obtain ⟨p, ys, rfl, hq, q⟩ := h
  obtain ⟨u, rfl, rx⟩ := vals1 r
  cases rx
  have hn := line63
  rcases hq with hq | hq
  · obtain ⟨its, r', pl, hz⟩ := I.list hq
    have hlen := r'.length
    exact Calls.call_len_list pl.isList (by simp only [List.size_toArray] <;> omega) ⟨.int ys.length, H, I.tok _, ⟨s.toks + 1, by rw [List.size_toArray, hlen]⟩, q⟩
  · obtain ⟨its, r', pl, hz⟩ := I.tuple hq
    have hlen := r'.length
    exact len_tuple pl (by simp only [List.size_toArray] <;> omega) ⟨.int ys.length, H, I.tok _, ⟨s.toks + 1, by rw [List.size_toArray, hlen]⟩, q⟩
theorem call_list_of : CallR X (.type "list") (fun xs H Q => ∃ p ys, xs = [.ref p] ∧ (SqL X.K H p ys ∨ SqT X.K H p ys) ∧ ∀ l, H l = none → Q (.ref l) (upd H l (.lst ys))) := by
  intro pins s σ H xs us Q I r h
  obtain ⟨p, ys, rfl, hq, q⟩ := h
  obtain ⟨u, rfl, rx⟩ := vals1 r
  cases rx
  have fin : ∀ (its : List Value), Vals ys its → ys.length ≤ sizeLine → ∀ (h' : Heap) (c' : Nat), (∀ b o', s.heap.get? b = some o' → h'.get? b = some o') →
      h'.get? s.heap.objs.size = some { cls := .type "list", dict := none, data := .seq its.toArray c', slots := #[] } → EP X pins σ Q (.ref s.heap.objs.size) { s with heap := h' } := fun its r' hz h' c' kp e =>
    ⟨.ref s.heap.objs.size, _, I.laid (t' := s.toks) kp (Nat.le_refl _) (show ObjOk X.prog X.w _ h' _ (.lst ys) from ⟨hz, its, c', r', e⟩), rfl, q _ (I.hok.fresh (Nat.le_refl _))⟩
  rcases hq with hq | hq
  · obtain ⟨its, r', pl, hz⟩ := I.list hq
    have hlen := r'.length
    obtain ⟨o, ho, hc, n, hd⟩ := pl.isList
    exact call_list_seq p (.inl rfl) ho hc hd (fun h' c' kp e => fin its r' hz h' c' kp e) (by simp only [List.size_toArray] <;> omega)
  · obtain ⟨its, r', pl, hz⟩ := I.tuple hq
    have hlen := r'.length
    obtain ⟨o, ho, hc, n, hd⟩ := pl
    exact call_list_seq p (.inr rfl) ho hc hd (fun h' c' kp e => fin its r' hz h' c' kp e) (by simp only [List.size_toArray] <;> omega)
theorem call_tuple_of : CallR X (.type "tuple") (fun xs H Q => ∃ p ys, xs = [.ref p] ∧ ((SqL X.K H p ys ∧ ∀ l, H l = none → Q (.ref l) (upd H l (.tup ys))) ∨ (SqT X.K H p ys ∧ Q (.ref p) H))) := by
  intro pins s σ H xs us Q I r h
  obtain ⟨p, ys, rfl, h⟩ := h
  obtain ⟨u, rfl, rx⟩ := vals1 r
  cases rx
  rcases h with ⟨hq, q⟩ | ⟨hq, q⟩
  · obtain ⟨its, r', pl, hz⟩ := I.list hq
    have hlen := r'.length
    refine call_tuple_list pl.isList (fun h' kp => ?_) (by simp only [List.size_toArray] <;> omega)
    have I1 : Inv X pins σ H { s with heap := h' } := I.kept (t' := s.toks) kp
    have I2 : Inv X pins σ (upd H h'.objs.size (.tup ys)) { s with heap := h'.push { cls := .type "tuple", data := .seq its.toArray } } :=
      I1.laid (t' := s.toks) (fun b o e => Heap.get?_push_of_some _ e) (Nat.le_refl _) (show ObjOk X.prog X.w _ _ _ (.tup ys) from ⟨hz, its, r', IsTup.new _ _⟩)
    exact ⟨.ref h'.objs.size, _, I2, rfl, q _ (I1.hok.fresh (Nat.le_refl _))⟩
  · obtain ⟨its, r', pl, hz⟩ := I.tuple hq
    exact call_tuple_same pl ⟨.ref p, H, I, rfl, q⟩
def tyV (K : PySem.W.Frag) (T : String) (x : V) (H : Hp) : Prop := match x with
  | .str _ => T = "str"
  | .int _ => T = "int"
  | .ref p => (T = "list" ∧ ∃ xs, SqL K H p xs) ∨ (T = "tuple" ∧ ∃ o, K.lookup p = some o ∧ o.cls = .type "tuple" ∧ o.dict = none) ∨
      (T = "dict" ∧ ((∃ kvs, H p = some (.dK kvs)) ∨ ∃ kvs, H p = some (.dT kvs))) ∨ (T = "set" ∧ ∃ S n, H p = some (.set S n))
  | _ => False
theorem tyV_is {pins : List (Addr × Obj)} {σ : St} {H : Hp} {s : Shared} {T : String} {x : V} {v : Value} (I : Inv X pins σ H s) (r : RelV x v) (ty : tyV X.K T x H) :
    s.TypeIs v T ∧ ∀ a, v = .ref a → ∃ ob, s.heap.get? a = some ob ∧ ob.dict = none := by
  cases x with
  | str z =>
    obtain ⟨t, rfl⟩ := r
    cases (show T = "str" from ty)
    exact ⟨typeIs_str s z t, fun _ e => nomatch e⟩
  | int i =>
    obtain ⟨t, rfl⟩ := r
    cases (show T = "int" from ty)
    exact ⟨typeIs_int s i t, fun _ e => nomatch e⟩
  | ref p =>
    cases r
    rcases ty with ⟨rfl, xs, hq⟩ | ⟨rfl, o, hk, hc, hd⟩ | ⟨rfl, hk⟩ | ⟨rfl, S, n, hk⟩
    · obtain ⟨its, _, pl, _⟩ := I.list hq
      refine ⟨pl.isList.typeIs, fun a e => ?_⟩
      cases e
      obtain ⟨o, n, e, c, hd, _⟩ := pl
      exact ⟨o, e, hd⟩
    · refine ⟨⟨o, I.kIn p o hk, hc⟩, fun a e => ?_⟩
      cases e
      exact ⟨o, I.kIn _ o hk, hd⟩
    · have z : ∃ o, s.heap.get? p = some o ∧ o.ExactDict := by
        rcases hk with ⟨kvs, hk⟩ | ⟨kvs, hk⟩
        · obtain ⟨_, _, _, _, o, _, _, e, ex, _⟩ := I.hok p _ hk
          exact ⟨o, e, ex⟩
        · obtain ⟨_, _, _, _, o, _, _, e, ex, _⟩ := I.hok p _ hk
          exact ⟨o, e, ex⟩
      obtain ⟨o, e, ex⟩ := z
      refine ⟨⟨o, e, ex.1⟩, fun a e2 => ?_⟩
      cases e2
      exact ⟨o, e, ex.2.1⟩
    · obtain ⟨o, _, _, _, e, ex, _⟩ := I.hok p _ hk
      refine ⟨⟨o, e, ex.1⟩, fun a e2 => ?_⟩
      cases e2
      exact ⟨o, e, ex.2.1⟩
  | _ => exact False.elim ty
def tBM0 (K : PySem.W.Frag) (T : String) (r : V → List V → Hp → VK → Prop) (to : TE) : TE := fun σ H Q => to σ H fun x H1 => tyV K T x H1 ∧ r x [] H1 Q
def tBM (K : PySem.W.Frag) (T : String) (r : V → List V → Hp → VK → Prop) (to : TE) (t : TA) : TE := fun σ H Q => to σ H fun x H1 => tyV K T x H1 ∧ t σ H1 fun xs H2 => r x xs H2 Q
variable {o e : Expr} {es : List Expr} {to : TE} {t : TA} {name : Str} {apos cpos : Pos} {T id : String} {r : V → List V → Hp → VK → Prop}
theorem pe_bm0 (pa : PlainAttrs T) (slot : Slot T name id) (hty : typeOf (.builtin id) = pure (.type "method_descriptor")) (hm : MtR X id r) (ho : PE X o to)
    (hbase : attributeBase o name X.env (eval o X.env) = eval o X.env := by rfl) (hline : (apos.endLine == cpos.line) = true := by rfl) : PE X (.Call (.Attribute o name apos) [] [] cpos) (tBM0 X.K T r to) := by
  intro pins s σ H Q I h
  refine wpAny_Call_method0_late hbase hline (thnE (ho pins s σ H _ I h) fun v s1 x H1 I1 r1 ⟨ty, q1⟩ => ?_)
  obtain ⟨h1, h2⟩ := tyV_is I1 r1 ty
  exact ⟨T, id, pa, slot, hty, h1, h2, Calls.callWith_builtin rfl (PySem.evalArgs_none (hm pins s1 σ H1 x [] v [] Q I1 r1 .nil q1))⟩
theorem pe_bm (pa : PlainAttrs T) (slot : Slot T name id) (hty : typeOf (.builtin id) = pure (.type "method_descriptor")) (hm : MtR X id r) (ho : PE X o to) (ha : PA X (e :: es) t)
    (hbase : attributeBase o name X.env (eval o X.env) = eval o X.env := by rfl)
    (hfew : ((backTo cpos (starEach (e :: es) X.env)).all (fun x => !x.1) && (backToKw cpos (keywordEach [] X.env)).all (fun x => x.1.isSome)
      && decide ((e :: es).length + ([] : List Keyword).length + (if ([] : List Keyword).isEmpty then 0 else 1) < 30)) = true := by rfl)
    (hline : (apos.endLine == cpos.line) = true := by rfl) (hs : starEach (e :: es) X.env = (false, eval e X.env) :: starEach es X.env := by rfl) (hplain : (backTo cpos (starEach es X.env)).any (·.1) = false := by rfl) :
    PE X (.Call (.Attribute o name apos) (e :: es) [] cpos) (tBM X.K T r to t) := by
  intro pins s σ H Q I h
  refine wpAny_Call_method_late hbase hfew hline rfl (thnE (ho pins s σ H _ I h) fun v s1 x H1 I1 r1 ⟨ty, q1⟩ => ?_)
  obtain ⟨h1, h2⟩ := tyV_is I1 r1 ty
  refine ⟨T, id, pa, slot, hty, h1, h2, ?_⟩
  have hA := ha cpos pins s1 σ H1 _ I1 q1
  rw [hs] at hA ⊢
  refine Calls.callWith_builtin (by show (false || (backTo cpos (starEach es X.env)).any (·.1)) = false; rw [hplain] <;> rfl) (Calls.evalArgs_plain ?_)
  exact thn hA fun us s2 ⟨vs, H2, I2, r2, q2⟩ => hm pins s2 σ H2 x vs v us Q I2 r1 r2 q2
end
end L2
namespace L2
open PySem PySem.Spec PyProof.Rows
def MtM (X : Cx) (id : String) (r : V → List V → Hp → VK → Prop) : Prop :=
  ∀ (pins : List (Addr × Obj)) (s : Shared) (σ : St) (H : Hp) (x : V) (xs : List V) (v : Value) (us : List Value) (Q : VK), Inv X pins σ H s → RelV x v → Vals xs us → r x xs H Q →
    wpAny (model X.prog X.w) X.A (call (.builtin id) (v :: us)) (EP X pins σ Q) X.xe s
theorem Vals.one {x : V} {us : List Value} (h : Vals [x] us) : ∃ u, us = [u] ∧ RelV x u := by
  cases h with
  | cons r t => cases t; exact ⟨_, rfl, r⟩
theorem Vals.two {x y : V} {us : List Value} (h : Vals [x, y] us) : ∃ u v, us = [u, v] ∧ RelV x u ∧ RelV y v := by
  cases h with
  | cons r t =>
    obtain ⟨v, e, q⟩ := Vals.one t
    subst e
    exact ⟨_, v, rfl, r, q⟩
theorem Vals.zero : ∀ {us : List Value}, Vals [] us → us = []
  | _, .nil => rfl
theorem Vals.dropLast {xs : List V} {us : List Value} (h : Vals xs us) : Vals xs.dropLast us.dropLast := by
  induction h with
  | nil => exact .nil
  | cons r t ih =>
    cases t with
    | nil => exact .nil
    | cons q t' => exact .cons r ih
theorem Vals.rep {xs : List V} {us : List Value} (h : Vals xs us) : ∀ k : Nat, Vals (List.replicate k xs).flatten (List.replicate k us).flatten
  | 0 => .nil
  | k + 1 => by
    rw [List.replicate_succ, List.replicate_succ, List.flatten_cons, List.flatten_cons]
    exact Vals.append h (Vals.rep h k)
theorem erase_last {α : Type} (l : List α) : l.eraseIdx (l.length - 1) = l.dropLast := by
  induction l with
  | nil => rfl
  | cons a r ih =>
    cases r with
    | nil => rfl
    | cons b r =>
      have e : (a :: b :: r).length - 1 = ((b :: r).length - 1) + 1 := by
        have h1 : (a :: b :: r).length = r.length + 2 := rfl
        have h2 : (b :: r).length = r.length + 1 := rfl
        omega
      rw [e, List.eraseIdx_cons_succ, ih]
      all_goals rfl
theorem foldl_rep (its : List Value) : ∀ (k : Nat) (acc : List Value),
    List.foldl (fun x1 x2 => x1 ++ x2) acc.toArray (List.replicate k its.toArray) = (acc ++ (List.replicate k its).flatten).toArray
  | 0, acc => by simp
  | k + 1, acc => by
    have e : acc.toArray ++ its.toArray = (acc ++ its).toArray := by simp
    have e2 : (acc ++ its) ++ (List.replicate k its).flatten = acc ++ (List.replicate (k + 1) its).flatten := by
      rw [List.replicate_succ, List.flatten_cons, List.append_assoc]
    rw [← e2, ← foldl_rep its k (acc ++ its), ← e, List.replicate_succ, List.foldl_cons]
section
variable {X : Cx} {pins : List (Addr × Obj)} {σ : St} {H : Hp} {s : Shared} {l b : Addr} {xs ys zs : List V}
theorem Inv.lset {its its' : List Value} {n : Nat} {f : Array Value → Array Value} {t' : Nat} (I : Inv X pins σ H s) (hH : H l = some (.lst xs))
    (e : s.heap.get? l = some { cls := .type "list", data := .seq its.toArray n }) (hf : f its.toArray = its'.toArray) (hv : Vals ys its') (hz : ys.length ≤ sizeLine) :
    Inv X pins σ (upd H l (.lst ys)) { s with heap := s.heap.update l (Obj.mapSeq f), toks := t' } := by
  have q := PySem.IsL.update e f
  rw [hf] at q
  refine I.write (x := l) (e := l) (by rw [hH]; exact trivial) (.inl rfl) (fun b' u hb hu => (Heap.get?_update_other s.heap (Obj.mapSeq f) (Ne.symm hb)).trans hu) ⟨_, q⟩ ?_
  exact ⟨hz, its', _, hv, q⟩
theorem Inv.lnew {its : List Value} {t' : Nat} (I : Inv X pins σ H s) (hv : Vals ys its) (hz : ys.length ≤ sizeLine) :
    Inv X pins σ (upd H s.heap.objs.size (.lst ys)) { s with heap := s.heap.push { cls := .type "list", data := .seq its.toArray }, toks := t' } :=
  I.laid (fun _ _ q => Heap.get?_push_of_some _ q) (Nat.le_refl _) ⟨hz, its, 0, hv, Heap.get?_push_size _ rfl⟩
theorem Inv.fresh (I : Inv X pins σ H s) : H s.heap.objs.size = none := I.hok.fresh (Nat.le_refl _)
theorem Inv.lstM (I : Inv X pins σ H s) (hH : H l = some (.lst xs)) : xs.length ≤ sizeLine ∧ ∃ (its : List Value) (n : Nat), Vals xs its ∧ xs.length = its.length ∧ s.heap.get? l = some { cls := .type "list", data := .seq its.toArray n } := by
  obtain ⟨z, its, n, r, e⟩ := I.hok l _ hH
  exact ⟨z, its, n, r, r.length, e⟩
theorem notLongL {n : Nat} (h : n ≤ sizeLine) : Builtin.List.listTooLong n = false := by
  unfold Builtin.List.listTooLong
  exact decide_eq_false (by omega)
end
section
variable {X : Cx}
def rAppend : V → List V → Hp → VK → Prop := fun x vs H Q => ∃ l xs y, x = .ref l ∧ vs = [y] ∧ H l = some (.lst xs) ∧ xs.length < sizeLine ∧ Q .non (upd H l (.lst (xs ++ [y])))
theorem mt_append : MtM X "list.append" rAppend := by
  intro pins s σ H x vs v us Q I rx rv h
  obtain ⟨l, xs, y, rfl, rfl, hH, hz, q⟩ := h
  cases rx
  obtain ⟨u, rfl, ru⟩ := rv.one
  obtain ⟨z, its, n, r, hl, e⟩ := I.lstM hH
  refine call_meets F.slot_list_append ⟨_, e, rfl⟩ F.entry_list_append (F.args_list_append_2 _ _) (PySem.list_append l its.toArray n u (by rw [List.size_toArray]; omega)) ⟨e, ?_⟩
  refine ⟨.non, _, I.lset (its' := its ++ [u]) hH e (by simp) (r.append (.cons ru .nil)) ?_, rfl, q⟩
  rw [List.length_append, List.length_singleton]
  omega
def rPop : V → List V → Hp → VK → Prop := fun x vs H Q => ∃ l xs y, x = .ref l ∧ vs = [] ∧ H l = some (.lst xs) ∧ xs[xs.length - 1]? = some y ∧ Q y (upd H l (.lst xs.dropLast))
theorem mt_pop : MtM X "list.pop" rPop := by
  intro pins s σ H x vs v us Q I rx rv h
  obtain ⟨l, xs, y, rfl, rfl, hH, hy, q⟩ := h
  cases rx
  have hus := rv.zero
  subst hus
  obtain ⟨z, its, n, r, hl, e⟩ := I.lstM hH
  obtain ⟨u, hu, ru⟩ := r.get hy
  have hy' : its.toArray[its.toArray.size - 1]? = some u := by
    show its.toArray[its.length - 1]? = some u
    rw [← Array.getElem?_toList, ← hl]
    exact hu
  refine call_meets F.slot_list_pop ⟨_, e, rfl⟩ F.entry_list_pop (F.args_list_pop_1 _) (MeetsSeq.list_pop_last l its.toArray n u hy' (by rw [List.size_toArray]; omega)) ⟨e, ?_⟩
  refine ⟨y, _, I.lset (its' := its.dropLast) hH e ?_ r.dropLast ?_, ru, q⟩
  · show its.toArray.eraseIdxIfInBounds (its.toArray.size - 1) = its.dropLast.toArray
    rw [List.size_toArray, List.eraseIdxIfInBounds_toArray, erase_last]
  · rw [List.length_dropLast]
    omega
def rRep : R2 := fun x y H Q => ∃ l k xs, x = .ref l ∧ y = .int k ∧ H l = some (.lst xs) ∧ -(2 ^ 63) ≤ k ∧ k < 2 ^ 63 ∧ xs.length * k.toNat ≤ sizeLine ∧
  ∀ p, H p = none → Q (.ref p) (upd H p (.lst (List.replicate k.toNat xs).flatten))
theorem len_rep {α : Type} (xs : List α) (k : Nat) : (List.replicate k xs).flatten.length = k * xs.length := by
  induction k with
  | zero => simp
  | succ k ih => rw [List.replicate_succ, List.flatten_cons, List.length_append, ih, Nat.succ_mul, Nat.add_comm]
theorem op_rep : OpR X (binaryOp .Mult) rRep := by
  intro pins s σ H x y v u Q I rx ry h
  obtain ⟨l, k, xs, rfl, rfl, hH, h1, h2, hz, q⟩ := h
  cases rx
  obtain ⟨t, rfl⟩ := ry
  obtain ⟨z, its, n, r, hl, e⟩ := I.lstM hH
  have hlen : its.toArray.size * k.toNat ≤ sizeLine := by rw [List.size_toArray, ← hl]; exact hz
  have hcap : ¬ its.toArray.size * k.toNat > (2 ^ 63 - 1) / 8 := by
    have : (sizeLine : Nat) ≤ (2 ^ 63 - 1) / 8 := by decide
    omega
  have hfit : ¬ (!Builtin.List.listFitsIndex k) = true := by
    rw [fitsIndex_both h1 h2]
    exact Bool.false_ne_true
  have hlong : ¬ Builtin.List.listTooLong (its.toArray.size * k.toNat) = true := by
    rw [notLongL hlen]
    exact Bool.false_ne_true
  have hnew : List.foldl (fun x1 x2 => x1 ++ x2) #[] (List.replicate (if its.toArray.isEmpty = true then 0 else k.toNat) its.toArray) = (List.replicate k.toNat its).flatten.toArray := by
    have f0 : ∀ m : Nat, List.foldl (fun x1 x2 => x1 ++ x2) #[] (List.replicate m its.toArray) = (List.replicate m its).flatten.toArray := fun m => by
      have := foldl_rep its m []
      rw [List.nil_append] at this
      exact this
    rw [f0]
    cases its with
    | nil => simp
    | cons a r' => rw [if_neg (by simp)]
  refine wpAny_binaryOp_repeat_ref (T := "list") (U := "int") (by decide) ⟨_, e, rfl⟩ (fun s' => typeIs_int s' k t) noFill_list_mul F.fills_int_mul F.slot_int_rmul repeat_list F.slot_int_index.lookup
    (call_meets F.slot_int_rmul (typeIs_int s k t) F.entry_int_rmul (F.args_int_rmul_2 _ _) (int___rmul___int_list k t l its.toArray n)
      ⟨e, rfl, ⟨_, e, rfl⟩, call_meets F.slot_list_mul ⟨_, e, rfl⟩ F.entry_list_mul (F.args_list_mul_2 _ _) (AutoListH.list___mul___list_int_3 l its.toArray n k t hfit hcap hlong) ⟨e, ?_⟩⟩)
  rw [hnew]
  exact ⟨.ref _, _, I.lnew (t' := s.toks) (r.rep k.toNat) (by rw [len_rep, Nat.mul_comm]; exact hz), rfl, q _ I.fresh⟩
end
section
variable {prog : Program} {w : World} {A : Around} {E : Value → Shared → Prop} {s : Shared}
set_option maxRecDepth 100000 in
end
section
variable {X : Cx}
end
end L2
namespace L2
open PySem PySem.Spec PyProof.Rows
section
variable {κ : Type} [DecidableEq κ]
def valV (kvs : List (κ × V)) (k : κ) : Option V := (kvs.find? fun kv => decide (kv.1 = k)).map (·.2)
def putK (kvs : List (κ × V)) (k : κ) (v : V) : List (κ × V) :=
  if (kvs.any fun kv => decide (kv.1 = k)) = true then kvs.map (fun kv => if kv.1 = k then (kv.1, v) else kv) else kvs ++ [(k, v)]
theorem valV_pos {p : κ × V} {r : List (κ × V)} {k : κ} (e : p.1 = k) : valV (p :: r) k = some p.2 := by simp [valV, List.find?_cons, e]
theorem valV_neg {p : κ × V} {r : List (κ × V)} {k : κ} (e : ¬ p.1 = k) : valV (p :: r) k = valV r k := by simp [valV, List.find?_cons, e]
theorem valV_any (k : κ) : ∀ kvs : List (κ × V), (kvs.any fun kv => decide (kv.1 = k)) = (valV kvs k).isSome
  | [] => rfl
  | p :: r => by
    rw [List.any_cons]
    by_cases e : p.1 = k
    · simp only [valV_pos e, decide_eq_true e, Bool.true_or, Option.isSome_some]
    · rw [valV_neg e, decide_eq_false e, Bool.false_or]; exact valV_any k r
theorem valV_map (k j : κ) (y : V) : ∀ kvs : List (κ × V), valV (kvs.map fun kv => if kv.1 = k then (kv.1, y) else kv) j = (valV kvs j).map fun x => if j = k then y else x
  | [] => rfl
  | p :: r => by
    have ih := valV_map k j y r
    rw [List.map_cons]
    by_cases h : p.1 = k
    · rw [if_pos h]
      by_cases e : p.1 = j
      · rw [valV_pos (p := (p.1, y)) e, valV_pos e, Option.map_some, if_pos (e.symm.trans h)]
      · rw [valV_neg (p := (p.1, y)) e, valV_neg e, ih]
    · rw [if_neg h]
      by_cases e : p.1 = j
      · rw [valV_pos (p := p) e, valV_pos e, Option.map_some, if_neg (fun z => h (e.trans z))]
      · rw [valV_neg (p := p) e, valV_neg e, ih]
theorem valV_snoc (k j : κ) (y : V) : ∀ kvs : List (κ × V), valV kvs k = none → valV (kvs ++ [(k, y)]) j = if j = k then some y else valV kvs j
  | [], _ => by
    by_cases e : k = j
    · rw [if_pos e.symm]; exact valV_pos (p := (k, y)) e
    · rw [if_neg (fun z => e z.symm)]; exact valV_neg (p := (k, y)) e
  | p :: r, hn => by
    rw [List.cons_append]
    have hk : ¬ p.1 = k := fun z => by rw [valV_pos z] at hn; cases hn
    rw [valV_neg hk] at hn
    have ih := valV_snoc k j y r hn
    by_cases e : p.1 = j
    · rw [valV_pos e, valV_pos e, if_neg (fun z => hk (e.trans z))]
    · rw [valV_neg e, valV_neg e, ih]
theorem valV_put (kvs : List (κ × V)) (k j : κ) (y : V) : valV (putK kvs k y) j = if j = k then some y else valV kvs j := by
  unfold putK
  by_cases a : (kvs.any fun kv => decide (kv.1 = k)) = true
  · rw [if_pos a, valV_map]
    rw [valV_any] at a
    by_cases e : j = k
    · obtain ⟨x, hx⟩ := Option.isSome_iff_exists.mp a
      rw [if_pos e, e, hx, Option.map_some, if_pos rfl]
    · rw [if_neg e]
      cases valV kvs j with
      | none => rfl
      | some x => rw [Option.map_some, if_neg e]
  · rw [if_neg a]
    refine valV_snoc k j y kvs ?_
    rw [valV_any] at a
    cases q : valV kvs k with
    | none => rfl
    | some x => rw [q] at a; exact (a rfl).elim
theorem length_putK (kvs : List (κ × V)) (k : κ) (v : V) : (putK kvs k v).length ≤ kvs.length + 1 := by
  unfold putK
  split
  · rw [List.length_map]; omega
  · rw [List.length_append, List.length_cons, List.length_nil]; omega
theorem putK_new {kvs : List (κ × V)} {k : κ} (v : V) (h : valV kvs k = none) : putK kvs k v = kvs ++ [(k, v)] := by
  unfold putK
  rw [valV_any, h]
  exact if_neg (by decide)
theorem RelO.isSome_eq {o : Option V} {u : Option Value} (r : RelO o u) : o.isSome = u.isSome := by
  cases o with
  | none => cases u with
    | none => rfl
    | some _ => exact (show False from r).elim
  | some _ => cases u with
    | none => exact (show False from r).elim
    | some _ => rfl
theorem KV.val {kvs : List (κ × V)} {vs : List (κ × Value)} (r : KV kvs vs) (k : κ) : RelO (valV kvs k) (valueAt vs k) := by
  unfold KV at r
  induction r with
  | nil => exact True.intro
  | @cons p q ps qs h t ih =>
    obtain ⟨h1, h2⟩ := h
    by_cases e : p.1 = k
    · have e' : q.1 = k := h1.symm.trans e
      have b : valueAt (q :: qs) k = some q.2 := by simp [valueAt, List.find?_cons, e']
      rw [valV_pos e, b]; exact h2
    · have e' : ¬ q.1 = k := fun z => e (h1.trans z)
      have b : valueAt (q :: qs) k = valueAt qs k := by simp [valueAt, List.find?_cons, e']
      rw [valV_neg e, b]; exact ih
theorem KV.any {kvs : List (κ × V)} {vs : List (κ × Value)} (r : KV kvs vs) (k : κ) : (kvs.any fun kv => decide (kv.1 = k)) = vs.any fun kv => decide (kv.1 = k) := by
  unfold KV at r
  induction r with
  | nil => rfl
  | cons h t ih => rw [List.any_cons, List.any_cons, ih, h.1]
theorem KV.repl {kvs : List (κ × V)} {vs : List (κ × Value)} (r : KV kvs vs) (k : κ) {y : V} {u : Value} (ry : RelV y u) :
    KV (kvs.map fun kv => if kv.1 = k then (kv.1, y) else kv) (vs.map fun kv => if kv.1 = k then (kv.1, u) else kv) := by
  unfold KV at r ⊢
  induction r with
  | nil => exact .nil
  | @cons p q ps qs h t ih =>
    rw [List.map_cons, List.map_cons]
    refine .cons ?_ ih
    obtain ⟨h1, h2⟩ := h
    by_cases e : p.1 = k
    · rw [if_pos e, if_pos (h1.symm.trans e)]; exact ⟨h1, ry⟩
    · rw [if_neg e, if_neg (fun z => e (h1.trans z))]; exact ⟨h1, h2⟩
theorem KV.put {kvs : List (κ × V)} {vs : List (κ × Value)} (r : KV kvs vs) (k : κ) {y : V} {u : Value} (ry : RelV y u) : KV (putK kvs k y) (stored vs k u) := by
  unfold putK stored
  rw [r.any k]
  by_cases e : (vs.any fun kv => decide (kv.1 = k)) = true
  · rw [if_pos e, if_pos e]; exact r.repl k ry
  · rw [if_neg e, if_neg e]; exact Paired.snoc r ⟨rfl, ry⟩
theorem KV.length {kvs : List (κ × V)} {vs : List (κ × Value)} (r : KV kvs vs) : kvs.length = vs.length := Paired.length r
end
theorem kV_is {P : Program} {w : World} {k : Key} {u : Value} (r : RelV (kV k) u) : (mixKind P w).is k u = true := by
  cases k with
  | inl i => obtain ⟨t, e⟩ := (show ∃ t, u = Value.int i t from r); subst e; exact mixKind_int P w i t
  | inr x => obtain ⟨t, e⟩ := (show ∃ t, u = Value.str x t from r); subst e; exact mixKind_str P w x t
theorem items_are {P : Program} {w : World} : ∀ {ks : List Key} {us : List Value}, Vals (ks.map kV) us → ItemsAre (mixKind P w) ks us
  | [], _, r => by rw [List.map_nil] at r; cases r; exact .nil
  | k :: ks, _, r => by
    rw [List.map_cons] at r
    cases r with
    | cons h t => exact .cons (kV_is h) (items_are t)
abbrev KT (H : Hp) : List (List Key × V) → List (List Key × Addr × Value) → Prop := Paired fun p q => p.1 = q.1 ∧ H q.2.1 = some (.tup (p.1.map kV)) ∧ RelV p.2 q.2.2
theorem KT.val {H : Hp} {kvs : List (List Key × V)} {xs : List (List Key × Addr × Value)} (r : KT H kvs xs) (k : List Key) : RelO (valV kvs k) ((atKey xs k).map (·.2)) := by
  induction r with
  | nil => exact True.intro
  | @cons p q ps qs h t ih =>
    obtain ⟨h1, _, h2⟩ := h
    by_cases e : p.1 = k
    · have e' : q.1 = k := h1.symm.trans e
      have b : atKey (q :: qs) k = some q.2 := by simp [atKey, List.find?_cons, e']
      rw [valV_pos e, b]; exact h2
    · have e' : ¬ q.1 = k := fun z => e (h1.trans z)
      have b : atKey (q :: qs) k = atKey qs k := by simp [atKey, List.find?_cons, e']
      rw [valV_neg e, b]; exact ih
theorem KT.repl {H : Hp} {kvs : List (List Key × V)} {xs : List (List Key × Addr × Value)} (r : KT H kvs xs) (k : List Key) {y : V} {u : Value} (ry : RelV y u) :
    KT H (kvs.map fun kv => if kv.1 = k then (kv.1, y) else kv) (xs.map (putAt k u)) := by
  induction r with
  | nil => exact .nil
  | @cons p q ps qs h t ih =>
    rw [List.map_cons, List.map_cons]
    refine .cons ?_ ih
    obtain ⟨h1, h2, h3⟩ := h
    unfold putAt
    by_cases e : p.1 = k
    · rw [if_pos e, if_pos (h1.symm.trans e)]; exact ⟨h1, h2, ry⟩
    · rw [if_neg e, if_neg (fun z => e (h1.trans z))]; exact ⟨h1, h2, h3⟩
theorem KT.put {H : Hp} {kvs : List (List Key × V)} {xs : List (List Key × Addr × Value)} (r : KT H kvs xs) (k : List Key) {b : Addr} {y : V} {u : Value} (hb : H b = some (.tup (k.map kV))) (ry : RelV y u) :
    KT H (putK kvs k y) (storedH xs k b u) := by
  have e : (kvs.any fun kv => decide (kv.1 = k)) = (atKey xs k).isSome := by
    rw [valV_any, (r.val k).isSome_eq, Option.isSome_map]
  unfold putK storedH
  rw [e]
  by_cases q : (atKey xs k).isSome = true
  · rw [if_pos q, if_pos q]; exact r.repl k ry
  · rw [if_neg q, if_neg q]; exact Paired.snoc r ⟨rfl, hb, ry⟩
theorem KT.keeps {H H' : Hp} {kvs : List (List Key × V)} {xs : List (List Key × Addr × Value)} (r : KT H kvs xs) (ht : ∀ b ys, H b = some (.tup ys) → H' b = some (.tup ys)) : KT H' kvs xs :=
  Paired.mapP r fun _ _ z => ⟨z.1, ht _ _ z.2.1, z.2.2⟩
section
variable {P : Program} {w : World} {H : Hp} {h : Heap} {a : Addr}
theorem rd_of {u : HO} (ok : HOk P w H h) (e : Rd H a u) : ObjOk P w H h a u := e.ok ok
theorem dk_rd {kvs : List (Key × V)} (ok : HOk P w H h) (e : Rd H a (.dK kvs)) : kvs.length ≤ sizeLine ∧ (a == sysModules) = false ∧ ∃ vs, KV kvs vs ∧ h.DictOf (mixKind P w) a vs :=
  show ObjOk P w H h a (.dK kvs) from rd_of ok e
theorem dk_of {kvs : List (Key × V)} (ok : HOk P w H h) (e : H a = some (.dK kvs)) : kvs.length ≤ sizeLine ∧ (a == sysModules) = false ∧ ∃ vs, KV kvs vs ∧ h.DictOf (mixKind P w) a vs := dk_rd ok (.inl e)
theorem key_of {ks : List Key} (ok : HOk P w H h) (e : H a = some (.tup (ks.map kV))) : (tupleKind (mixKind P w)).is h ks a := by
  obtain ⟨_, its, r, o, h1, h2, n, h3⟩ := (show ObjOk P w H h a (.tup (ks.map kV)) from ok a _ e)
  exact ⟨o, its.toArray, n, h1, h2, h3, by simpa using items_are r⟩
theorem dt_rd {kvs : List (List Key × V)} (ok : HOk P w H h) (e : Rd H a (.dT kvs)) : kvs.length ≤ sizeLine ∧ (a == sysModules) = false ∧
    ∃ xs, KT H kvs xs ∧ h.DictOfH (tupleKind (mixKind P w)) a xs := by
  obtain ⟨z, y, xs, r, o, es, ep, h1, h2, h3, h4, h5⟩ := (show ObjOk P w H h a (.dT kvs) from rd_of ok e)
  refine ⟨z, y, xs, r, o, es, ep, h1, h2, h3, h4, fun x hx => ?_, h5⟩
  have all : ∀ {l : List (List Key × V)} {m : List (List Key × Addr × Value)}, KT H l m → ∀ x ∈ m, (tupleKind (mixKind P w)).is h x.1 x.2.1 := by
    intro l m q
    induction q with
    | nil => intro x hx; exact nomatch hx
    | @cons p q ps qs hq t ih =>
      intro x hx
      rcases List.mem_cons.mp hx with e | hx
      · subst e
        exact key_of ok (by rw [← hq.1]; exact hq.2.1)
      · exact ih x hx
  exact all r x hx
theorem dt_of {kvs : List (List Key × V)} (ok : HOk P w H h) (e : H a = some (.dT kvs)) : kvs.length ≤ sizeLine ∧ (a == sysModules) = false ∧
    ∃ xs, KT H kvs xs ∧ h.DictOfH (tupleKind (mixKind P w)) a xs := dt_rd ok (.inl e)
end
def DGet (H : Hp) (a : Addr) (y : V) (r : Option V) : Prop :=
  (∃ kvs k, Rd H a (.dK kvs) ∧ y = kV k ∧ r = valV kvs k) ∨ ∃ kvs k b, Rd H a (.dT kvs) ∧ y = .ref b ∧ H b = some (.tup (k.map kV)) ∧ r = valV kvs k
def DPut (H : Hp) (a : Addr) (y v : V) (H' : Hp) : Prop :=
  (∃ kvs k, H a = some (.dK kvs) ∧ y = kV k ∧ kvs.length < sizeLine ∧ H' = upd H a (.dK (putK kvs k v))) ∨
  ∃ kvs k b, H a = some (.dT kvs) ∧ y = .ref b ∧ H b = some (.tup (k.map kV)) ∧ kvs.length < sizeLine ∧ H' = upd H a (.dT (putK kvs k v))
theorem DGet.k {H : Hp} {a : Addr} {kvs : List (Key × V)} {k : Key} (e : H a = some (.dK kvs)) : DGet H a (kV k) (valV kvs k) := .inl ⟨kvs, k, .inl e, rfl, rfl⟩
theorem DGet.t {H : Hp} {a b : Addr} {kvs : List (List Key × V)} {k : List Key} (e : H a = some (.dT kvs)) (eb : H b = some (.tup (k.map kV))) : DGet H a (.ref b) (valV kvs k) := .inr ⟨kvs, k, b, .inl e, rfl, eb, rfl⟩
theorem DPut.k {H : Hp} {a : Addr} {kvs : List (Key × V)} {k : Key} {v : V} (e : H a = some (.dK kvs)) (hl : kvs.length < sizeLine) : DPut H a (kV k) v (upd H a (.dK (putK kvs k v))) := .inl ⟨kvs, k, e, rfl, hl, rfl⟩
theorem DPut.t {H : Hp} {a b : Addr} {kvs : List (List Key × V)} {k : List Key} {v : V} (e : H a = some (.dT kvs)) (eb : H b = some (.tup (k.map kV))) (hl : kvs.length < sizeLine) :
    DPut H a (.ref b) v (upd H a (.dT (putK kvs k v))) := .inr ⟨kvs, k, b, e, rfl, eb, hl, rfl⟩
section
variable {X : Cx} {pins : List (Addr × Obj)} {σ : St} {H : Hp} {s : Shared} {a : Addr} {y v : V} {u r : Value} {o : Option V} {A : Around} {E : Value → Shared → Prop}
theorem Inv.big (I : Inv X pins σ H s) : sysModules < s.heap.objs.size := by
  have h : mainGlobals < s.heap.objs.size := (I.mod.glob.keeps I.bk).lt
  exact Nat.lt_trans (by decide) h
theorem d_getItem {Q : Value → Shared → Prop} (hu : A.units + 1 < cLine) (I : Inv X pins σ H s) (g : DGet H a y (some v)) (ry : RelV y u) (h : ∀ w' s', Inv X pins σ H s' → RelV v w' → Q w' s') :
    wpAny (model X.prog X.w) A (getItem (.ref a) u) Q E s := by
  rcases g with ⟨kvs, k, e, ey, l⟩ | ⟨kvs, k, b, e, ey, eb, l⟩
  · subst ey
    obtain ⟨z, hd, vs, rel, dd⟩ := dk_rd I.hok e
    obtain ⟨w', hw, rw'⟩ := RelO.some_of (v := v) (o := valueAt vs k) (by rw [l]; exact rel.val k)
    exact wpAny_getItem_of (kV_is ry) dd.mapOf hw (h w' _ (I.tok _) rw')
  · subst ey
    cases (show u = Value.ref b from ry)
    obtain ⟨z, hd, xs, rel, dd⟩ := dt_rd I.hok e
    obtain ⟨w', hw, rw'⟩ := RelO.some_of (v := v) (o := (atKey xs k).map (·.2)) (by rw [l]; exact rel.val k)
    obtain ⟨p, hp, hp2⟩ := Option.map_eq_some_iff.mp hw
    refine wpAny_getItem_heap (tupleKind_room_in1 hu) (key_of I.hok eb) dd hp ?_
    rw [hp2]
    exact h w' _ (I.tok _) rw'
theorem d_in {Q : Value → Shared → Prop} (hu : A.units + 1 < cLine) (I : Inv X pins σ H s) (g : DGet H a y o) (ry : RelV y u) (h : ∀ s', Inv X pins σ H s' → Q (.bool o.isSome) s') :
    wpAny (model X.prog X.w) A (compareOp .In u (.ref a)) Q E s := by
  rcases g with ⟨kvs, k, e, ey, l⟩ | ⟨kvs, k, b, e, ey, eb, l⟩
  · subst ey
    obtain ⟨z, hd, vs, rel, dd⟩ := dk_rd I.hok e
    refine wpAny_in_of (kV_is ry) hd dd.mapOf ?_
    rw [← (rel.val k).isSome_eq, ← l]
    exact h _ (I.tok _)
  · subst ey
    cases (show u = Value.ref b from ry)
    obtain ⟨z, hd, xs, rel, dd⟩ := dt_rd I.hok e
    refine wpAny_in_heap (tupleKind_room_in1 hu) (key_of I.hok eb) hd dd ?_
    have q := (rel.val k).isSome_eq
    rw [Option.isSome_map] at q
    rw [← q, ← l]
    exact h _ (I.tok _)
theorem d_notIn {Q : Value → Shared → Prop} (hu : A.units + 1 < cLine) (I : Inv X pins σ H s) (g : DGet H a y o) (ry : RelV y u) (h : ∀ s', Inv X pins σ H s' → Q (.bool (!o.isSome)) s') :
    wpAny (model X.prog X.w) A (compareOp .NotIn u (.ref a)) Q E s := by
  rcases g with ⟨kvs, k, e, ey, l⟩ | ⟨kvs, k, b, e, ey, eb, l⟩
  · subst ey
    obtain ⟨z, hd, vs, rel, dd⟩ := dk_rd I.hok e
    refine wpAny_notIn_of (kV_is ry) hd dd.mapOf ?_
    rw [← (rel.val k).isSome_eq, ← l]
    exact h _ (I.tok _)
  · subst ey
    cases (show u = Value.ref b from ry)
    obtain ⟨z, hd, xs, rel, dd⟩ := dt_rd I.hok e
    refine wpAny_notIn_heap (tupleKind_room_in1 hu) (key_of I.hok eb) hd dd ?_
    have q := (rel.val k).isSome_eq
    rw [Option.isSome_map] at q
    rw [← q, ← l]
    exact h _ (I.tok _)
theorem d_write {h' : Heap} {t' : Nat} {ob : HO} (I : Inv X pins σ H s) (mu : Mut (H a)) (hs : Heap.SameBut a s.heap h') (he : ∃ q, h'.get? a = some q) (new : ObjOk X.prog X.w (upd H a ob) h' a ob) :
    Inv X pins σ (upd H a ob) { s with heap := h', toks := t' } :=
  I.write (x := a) (e := a) mu (.inl rfl) (fun b q hb z => (hs.2 b hb).trans z) he new
theorem dk_new {P : Program} {w : World} {H' : Hp} {h' : Heap} {kvs : List (Key × V)} {vs : List (Key × Value)} (z : kvs.length ≤ sizeLine) (hd : (a == sysModules) = false) (rel : KV kvs vs) (dd : h'.DictOf (mixKind P w) a vs) :
    ObjOk P w H' h' a (.dK kvs) := ⟨z, hd, vs, rel, dd⟩
theorem d_setItem {H' : Hp} {Q : Unit → Shared → Prop} (hu : A.units + 1 < cLine) (I : Inv X pins σ H s) (g : DPut H a y v H') (ry : RelV y u) (rv : RelV v r) (h : ∀ s', Inv X pins σ H' s' → Q () s') :
    wpAny (model X.prog X.w) A (setItem (.ref a) u r) Q E s := by
  rcases g with ⟨kvs, k, e, ey, l, eH⟩ | ⟨kvs, k, b, e, ey, eb, l, eH⟩
  · subst ey eH
    obtain ⟨z, hd, vs, rel, dd⟩ := dk_of I.hok e
    have hz : vs.length ≤ sizeLine := by rw [← rel.length]; exact z
    have hl : (putK kvs k v).length ≤ sizeLine := by have := length_putK kvs k v; omega
    refine wpAny_setItem_pairs (hsz := hz) (kV_is ry) dd fun h' dd' hs => h _ ?_
    have he : ∃ q, h'.get? a = some q := let ⟨q, _, _, hq, _⟩ := dd'; ⟨q, hq⟩
    exact d_write I (by rw [e]; exact True.intro) hs he (dk_new hl hd (rel.put k rv) dd')
  · subst ey eH
    cases (show u = Value.ref b from ry)
    obtain ⟨z, hd, xs, rel, dd⟩ := dt_of I.hok e
    have hz : xs.length ≤ sizeLine := by rw [← Paired.length rel]; exact z
    have hl : (putK kvs k v).length ≤ sizeLine := by have := length_putK kvs k v; omega
    refine wpAny_setItem_heap (hsz := hz) (tupleKind_room_in1 hu) (key_of I.hok eb) dd fun h' dd' hs => h _ ?_
    obtain ⟨q, es, ep, hq, h2, h3, h4, _, h5⟩ := dd'
    refine d_write I (by rw [e]; exact True.intro) hs ⟨q, hq⟩ ⟨hl, hd, _, (rel.put k eb rv).keeps fun c ys ec => ?_, q, es, ep, hq, h2, h3, h4, h5⟩
    rw [upd_ne (ne_of ec e (fun z => nomatch z))]
    exact ec
end
section
variable {X : Cx} {pins : List (Addr × Obj)} {σ : St} {H : Hp} {s : Shared} {a : Addr} {kvs : List (Key × V)} {k : Key} {u : Value} {A : Around} {E : Value → Shared → Prop}
theorem d_len {Q : Value → Shared → Prop} (I : Inv X pins σ H s) (e : Rd H a (.dK kvs)) (h : ∀ t s', Inv X pins σ H s' → Q (.int kvs.length t) s') : wpAny (model X.prog X.w) A (call (.builtin "len") [.ref a]) Q E s := by
  obtain ⟨z, hd, vs, rel, dd⟩ := dk_rd I.hok e
  refine call_len_dict hd dd (by rw [← rel.length]; rw [sizeLine_eq] at z; omega) ?_
  rw [← rel.length]
  exact h _ _ (I.tok _)
end
def NoSl (i : Expr) : Prop := ∀ ov iv, subscripted i false ov iv = operate [ov, iv] (getItem ov iv)
theorem subD_of {prog : Program} {w : World} {A : Around} {E : Value → Shared → Prop} {s : Shared} {env : Env} {value slice : Expr} {pos : Pos} {T id : String} {Q : Value → Shared → Prop}
    (hl : typeLookup (.type T) "__getitem__" = pure (some (.builtin id))) (hs : NoSl slice)
    (h : wpAny (model prog w) A (eval value env) (fun o s₁ => wpAny (model prog w) A (eval slice env) (fun i s₂ => s₂.TypeIs o T ∧ wpAny (model prog w) A (getItem o i) Q E s₂) E s₁) E s) :
    wpAny (model prog w) A (eval (.Subscript value slice pos) env) Q E s := by
  refine Subscript_ (wpAny_mono h (fun o s₁ h₁ => wpAny_mono h₁ (fun i s₂ h₂ => ?_) fun _ _ x => x) fun _ _ x => x)
  obtain ⟨hT, h₂⟩ := h₂
  unfold subscriptTail
  refine wpAny_bind ?_
  rw [getitemInPython_of_ne hT.not_modules]
  refine wpAny_bind (wpAny_specialOf hT hl ?_)
  have fin : wpAny (model prog w) A (subscripted slice false o i) (fun r s₃ => wpAny (model prog w) A (letTemporaryGo value o r >>= fun _ => pure r) Q E s₃) E s₂ := by
    rw [hs o i]
    exact wpAny_operating (wpAny_mono h₂ (fun r s₃ h₃ => wpAny_bind (wpAny_letTemporaryGo (wpAny_pure h₃))) fun _ _ x => x)
  first
    | exact wpAny_pure (wpAny_bind fin)
    | exact wpAny_bind (wpAny_pure (wpAny_bind fin))
    | exact wpAny_bind fin
theorem dict_typeIs {X : Cx} {pins : List (Addr × Obj)} {σ : St} {H : Hp} {s : Shared} {a : Addr} {y : V} {o : Option V} (I : Inv X pins σ H s) (g : DGet H a y o) : s.TypeIs (.ref a) "dict" := by
  rcases g with ⟨kvs, k, e, _, _⟩ | ⟨kvs, k, b, e, _, _, _⟩
  · obtain ⟨_, _, vs, _, dd⟩ := dk_rd I.hok e
    exact dd.typeIs
  · obtain ⟨_, _, xs, _, dd⟩ := dt_rd I.hok e
    exact dd.typeIs
def tDGet (td ty : TE) : TE := fun σ H Q => td σ H fun x H1 => ty σ H1 fun y H2 => ∃ a v, x = .ref a ∧ DGet H2 a y (some v) ∧ Q v H2
def tDIn (ty td : TE) : TE := fun σ H Q => ty σ H fun y H1 => td σ H1 fun x H2 => ∃ a o, x = .ref a ∧ DGet H2 a y o ∧ Q (.bl o.isSome) H2
def tDNotIn (ty td : TE) : TE := fun σ H Q => ty σ H fun y H1 => td σ H1 fun x H2 => ∃ a o, x = .ref a ∧ DGet H2 a y o ∧ Q (.bl (!o.isSome)) H2
def sDPut (td ty tv : TE) : TS := fun D σ H => tv σ H fun v H1 => td σ H1 fun x H2 => ty σ H2 fun y H3 => ∃ a H4, x = .ref a ∧ DPut H3 a y v H4 ∧ D.nx σ H4
section
variable {X : Cx} {o i e value : Expr} {pos pos' tpos : Pos} {td ty tv : TE}
theorem pe_dget (hu : X.A.units + 1 < cLine) (ho : PE X o td) (hi : PE X i ty) (hs : NoSl i) : PE X (.Subscript o i pos) (tDGet td ty) := by
  intro pins s σ H Q I h
  refine subD_of PySem.F.slot_dict_getitem.lookup hs (thnE (ho pins s σ H _ I h) fun u s1 x H1 I1 rx q1 => thnE (hi pins s1 σ H1 _ I1 q1) fun iv s2 y H2 I2 ry ⟨a, v, ex, g, q2⟩ => ?_)
  subst ex
  obtain rfl : u = Value.ref a := rx
  exact ⟨dict_typeIs I2 g, d_getItem hu I2 g ry fun w' s3 I3 rw' => ⟨v, H2, I3, rw', q2⟩⟩
theorem pc_din (hu : X.A.units + 1 < cLine) (hi : PE X i ty) (ho : PE X o td) : PC X .In i o (tDIn ty td) := by
  intro pins s σ H Q I h
  refine thnE (hi pins s σ H _ I h) fun iv s1 y H1 I1 ry q1 => thnE (ho pins s1 σ H1 _ I1 q1) fun u s2 x H2 I2 rx ⟨a, ov, ex, g, q2⟩ => ?_
  subst ex
  obtain rfl : u = Value.ref a := rx
  exact d_in hu I2 g ry fun s3 I3 => ⟨.bl ov.isSome, H2, I3, rfl, q2⟩
theorem pc_dnotin (hu : X.A.units + 1 < cLine) (hi : PE X i ty) (ho : PE X o td) : PC X .NotIn i o (tDNotIn ty td) := by
  intro pins s σ H Q I h
  refine thnE (hi pins s σ H _ I h) fun iv s1 y H1 I1 ry q1 => thnE (ho pins s1 σ H1 _ I1 q1) fun u s2 x H2 I2 rx ⟨a, ov, ex, g, q2⟩ => ?_
  subst ex
  obtain rfl : u = Value.ref a := rx
  exact d_notIn hu I2 g ry fun s3 I3 => ⟨.bl (!ov.isSome), H2, I3, rfl, q2⟩
theorem ps_dput (hu : X.A.units + 1 < cLine) (ho : PE X o td) (hi : PE X i ty) (hv : PE X value tv) (hs : swapsWith value (some (.Subscript o i pos')) pos.line X.env = pure false) :
    PS X (.Assign [.Subscript o i pos'] value pos) (sDPut td ty tv) := by
  intro pins s σ H D I h
  refine wpAny_Assign_Subscript (thnE (hv pins s σ H _ I h) fun r s1 v H1 I1 rv q1 => thnE (ho pins s1 σ H1 _ I1 q1) fun u s2 x H2 I2 rx q2 => thnE (hi pins s2 σ H2 _ I2 q2) fun iv s3 y H3 I3 ry ⟨a, H4, ex, g, q3⟩ => ?_) hs
  subst ex
  obtain rfl : u = Value.ref a := rx
  exact d_setItem hu I3 g ry rv fun s4 I4 => ⟨σ, H4, I4, q3⟩
end
theorem dk_empty {P : Program} {w : World} {H : Hp} (h : Heap) (hb : sysModules < h.objs.size) : ObjOk P w H (h.push { cls := .type "dict", data := .dict #[] }) h.objs.size (.dK []) :=
  ⟨Nat.zero_le _, beq_eq_false_iff_ne.mpr (Ne.symm (Nat.ne_of_lt hb)), [], .nil, Heap.DictOf.new h⟩
theorem dt_empty {P : Program} {w : World} {H : Hp} (h : Heap) (hb : sysModules < h.objs.size) : ObjOk P w H (h.push { cls := .type "dict", data := .dict #[] }) h.objs.size (.dT []) :=
  ⟨Nat.zero_le _, beq_eq_false_iff_ne.mpr (Ne.symm (Nat.ne_of_lt hb)), [], .nil, _, #[], 0, Heap.get?_push_size _ rfl, ⟨rfl, rfl, rfl⟩, rfl, rfl, List.nodup_nil⟩
def tDNewK : TE := fun _ H Q => ∀ p, H p = none → Q (.ref p) (upd H p (.dK []))
def tDNewT : TE := fun _ H Q => ∀ p, H p = none → Q (.ref p) (upd H p (.dT []))
section
variable {X : Cx} {pos : Pos}
theorem pe_dnewT : PE X (.Dict [] [] pos) tDNewT := fun pins s σ H Q I h =>
  wpAny_Dict_empty ⟨.ref s.heap.objs.size, _, I.laid (a := s.heap.objs.size) (o := .dT []) (t' := s.toks) (fun _ _ q => Heap.get?_push_of_some _ q) (Nat.le_refl _) (dt_empty s.heap I.big), rfl, h _ (I.hok.fresh (Nat.le_refl _))⟩
end
def tPairs : List (TE × TE) → St → Hp → (List (V × V) → Hp → Prop) → Prop
  | [], _, H, Q => Q [] H
  | (tk, tv) :: r, σ, H, Q => tk σ H fun x H1 => tv σ H1 fun y H2 => tPairs r σ H2 fun ps H3 => Q ((x, y) :: ps) H3
abbrev VV : List (V × V) → List (Value × Value) → Prop := Paired fun p q => RelV p.1 q.1 ∧ RelV p.2 q.2
def PPs (X : Cx) (pos : Pos) (keys : List (Option Expr)) (values : List Expr) (trs : List (TE × TE)) : Prop :=
  ∀ (pins : List (Addr × Obj)) (s : Shared) (σ : St) (H : Hp) (Q : List (V × V) → Hp → Prop), Inv X pins σ H s → tPairs trs σ H Q →
    wpAny (model X.prog X.w) X.A (evalPairs (pairTrees keys values X.env pos)) (fun vs s' => ∃ ps H', Inv X pins σ H' s' ∧ VV ps vs ∧ Q ps H') X.xe s
theorem pps_nil {X : Cx} {pos : Pos} : PPs X pos [] [] [] := fun pins s σ H Q I h => pairTrees_nil_walk ⟨[], H, I, .nil, h⟩
theorem pps_cons {X : Cx} {pos : Pos} {k v : Expr} {ks : List (Option Expr)} {vs : List Expr} {tk tv : TE} {trs : List (TE × TE)} (hk : PE X k tk) (hv : PE X v tv) (hr : PPs X pos ks vs trs) :
    PPs X pos (some k :: ks) (v :: vs) ((tk, tv) :: trs) := fun pins s σ H Q I h =>
  pairTrees_cons_walk (thnE (hk pins s σ H _ I h) fun u s1 x H1 I1 rx q1 => thnE (hv pins s1 σ H1 _ I1 q1) fun w2 s2 y H2 I2 ry q2 =>
    thn (hr pins s2 σ H2 _ I2 q2) fun ws s3 ⟨ps, H3, I3, rel, q3⟩ => ⟨(x, y) :: ps, H3, I3, .cons ⟨rx, ry⟩ rel, q3⟩)
def mergeK (kvs more : List (Key × V)) : List (Key × V) := more.foldl (fun acc kv => putK acc kv.1 kv.2) kvs
theorem KV.merge : ∀ {more : List (Key × V)} {rs : List (Key × Value)} {kvs : List (Key × V)} {vs : List (Key × Value)}, KV more rs → KV kvs vs → KV (mergeK kvs more) (merged vs rs) := by
  intro more rs kvs vs r
  unfold KV at r
  induction r generalizing kvs vs with
  | nil => intro q; exact q
  | @cons p q ps qs h t ih =>
    intro r0
    have e : KV (putK kvs p.1 p.2) (stored vs q.1 q.2) := by
      have := r0.put p.1 h.2
      rw [← h.1]; exact this
    exact ih e
theorem length_mergeK : ∀ (more kvs : List (Key × V)), (mergeK kvs more).length ≤ kvs.length + more.length
  | [], kvs => by show kvs.length ≤ kvs.length + 0; omega
  | p :: r, kvs => by
    have h1 := length_mergeK r (putK kvs p.1 p.2)
    have h2 := length_putK kvs p.1 p.2
    show (mergeK (putK kvs p.1 p.2) r).length ≤ _
    rw [List.length_cons]; omega
theorem carries_of {P : Program} {w : World} : ∀ {kvs : List (Key × V)} {ws : List (Value × Value)}, VV (kvs.map fun kv => (kV kv.1, kv.2)) ws → ∃ rs, Carries (mixKind P w) ws rs ∧ KV kvs rs
  | [], _, r => by rw [List.map_nil] at r; cases r; exact ⟨[], True.intro, .nil⟩
  | p :: kvs, _, r => by
    rw [List.map_cons] at r
    cases r with
    | @cons a b as bs h t =>
      obtain ⟨rs, c, q⟩ := carries_of (P := P) (w := w) t
      obtain ⟨b1, b2⟩ := b
      exact ⟨(p.1, b2) :: rs, ⟨kV_is h.1, rfl, c⟩, .cons ⟨rfl, h.2⟩ q⟩
def tDisp (trs : List (TE × TE)) : TE := fun σ H Q => ∀ p, H p = none → tPairs trs σ (upd H p (.dK [])) fun ps H2 => H2 p = some (.dK []) ∧ ∃ kvs : List (Key × V), ps = kvs.map (fun kv => (kV kv.1, kv.2)) ∧ kvs.length ≤ 15 ∧ Q (.ref p) (upd H2 p (.dK (mergeK [] kvs)))
theorem pe_disp {X : Cx} {pos : Pos} {keys : List (Option Expr)} {values : List Expr} {trs : List (TE × TE)} (h : PPs X pos keys values trs) (hall : keys.all (·.isSome) = true) (hl : keys.length = values.length) (h0 : keys ≠ [])
    (h15 : keys.length ≤ 15) : PE X (.Dict keys values pos) (tDisp trs) := by
  intro pins s σ H Q I q
  have hn := I.hok.fresh (Nat.le_refl s.heap.objs.size)
  have I1 := I.laid (a := s.heap.objs.size) (o := .dK []) (h' := s.heap.push { cls := .type "dict", data := .dict #[] }) (t' := s.toks) (fun _ _ q => Heap.get?_push_of_some _ q) (Nat.le_refl _) (dk_empty s.heap I.big)
  refine wpAny_Dict_walk (knd := mixKind X.prog X.w) hall hl h0 h15 (thn (h pins _ σ _ _ I1 (q _ hn)) fun ws s2 ⟨ps, H2, I2, rel, e, kvs, ep, lk, q2⟩ => ?_)
  subst ep
  obtain ⟨rs, c, rk⟩ := carries_of (P := X.prog) (w := X.w) rel
  obtain ⟨z, hd, vs0, r0, dd⟩ := dk_of I2.hok e
  cases r0
  refine ⟨rs, c, dd, fun h' dd' hs => ⟨.ref s.heap.objs.size, _, ?_, rfl, q2⟩⟩
  have hz : (mergeK [] kvs).length ≤ sizeLine := by
    have h1 := length_mergeK kvs []
    rw [List.length_nil] at h1
    rw [sizeLine_eq]; omega
  have he : ∃ q, h'.get? s.heap.objs.size = some q := let ⟨q, _, _, hq, _⟩ := dd'; ⟨q, hq⟩
  exact d_write I2 (by rw [e]; exact True.intro) hs he (dk_new hz hd (rk.merge .nil) dd')
section
variable {X : Cx} {pins : List (Addr × Obj)} {σ : St} {H : Hp} {s : Shared} {a : Addr} {y d : V} {u r : Value} {o : Option V} {A : Around} {E : Value → Shared → Prop}
end
section
variable {X : Cx} {o e f : Expr} {apos cpos : Pos} {td ty tx : TE}
end
section
variable {X : Cx} {pins : List (Addr × Obj)} {σ : St} {H : Hp} {s : Shared} {a : Addr} {kvs : List (Key × V)} {A : Around} {E : Value → Shared → Prop}
end
section
variable {X : Cx} {pins : List (Addr × Obj)} {σ : St} {H : Hp} {s : Shared} {a : Addr} {y : V} {u : Value} {A : Around} {E : Value → Shared → Prop}
end
end L2
namespace Att
open PySem PySem.W PySem.Calls PyProof.Rows
theorem ints_of_wellAll {P : Params} {h : Heap} : ∀ (ns : List Int) (vs : List Value), WellAll P h vs (ns.map WData.int) → IntsAre vs ns := by
  intro ns
  induction ns with
  | nil =>
    intro vs w
    rw [List.map_nil] at w
    cases w
    exact .nil
  | cons n ns ih =>
    intro vs w
    rw [List.map_cons] at w
    cases w with
    | cons a b =>
      cases a
      exact .cons _ _ (ih _ b)
theorem script_of {l : OpenLaw} {n : Nat} (hn : l.most = some n) {P : Params} {h : Heap} {args : List WData} {vals : List Value}
    (hpre : l.row.toRowW.claim.pre args = true) (hwl : WellAll P h vals args) :
    ∃ a vs ns, vals = [Value.ref a] ∧ args = [WData.list (ns.map WData.int)] ∧ h.get? a = some { cls := .type "list", data := .seq vs.toArray } ∧ IntsAre vs ns ∧ ns.length ≤ n := by
  have hsh : WShape.hasAll [] args [.list .int] = true := (pre_splitW hpre).1
  have hc : l.pre.holds [] { args := args } = true := (pre_splitW hpre).2
  obtain ⟨d, r, rfl, h1, h2⟩ := hasAllW_cons hsh
  obtain rfl := hasAllW_nil h2
  obtain ⟨xs, rfl, h3⟩ := hasW_list h1
  obtain ⟨ns, rfl⟩ := items_int h3
  have hlen : ns.length ≤ n := by
    unfold OpenLaw.pre at hc
    have h4 : (WTm.not (.lt (.lit (.int (n : Int))) (.len (.arg 0)))).holds [] { args := [.list (ns.map .int)] } = true := by
      have h4 := (holds_andW hc).1
      rw [hn] at h4
      exact h4
    have h5 := condW_of h4 (w_not (w_lt w_lit (w_len_list (w_arg rfl))))
    rw [List.length_map] at h5
    refine Nat.le_of_not_lt fun q => ?_
    have q' : (n : Int) < ((ns.length : Nat) : Int) := by omega
    first
      | (rw [decide_eq_true q'] at h5; exact absurd h5 (by decide))
      | (simp at h5; omega)
  cases hwl with
  | cons w1 w2 =>
    cases w2
    cases w1 with
    | list ho hall => exact ⟨_, _, ns, rfl, rfl, ho, ints_of_wellAll ns _ hall, hlen⟩
theorem post_true (l : OpenLaw) (args : List WData) : l.row.toRowW.claim.post args (.bool true) args = true :=
  postW_of (r := l.row.toRowW) (X := (true == true))
    (show WShape.has [] (.bool true) .bool = true by first | rfl | decide | simp [WShape.has, WShape.arms, WShape.armsAll])
    (show (WTm.eq .res (.lit (.bool true))).value [] { args := args, res := some (.bool true), after := args } = some (.bool (true == true)) from w_eq_bool (w_res rfl) w_lit) rfl
theorem attach_call {l : OpenLaw} {n : Nat} {q : Program} {loose : List Str} {XP : (Str → Option Value) → Heap → Prop} {YP : World → Heap → Prop} {d : DefRec}
    (hn : l.most = some n) (hdf : d.params.defaults = [])
    (call : ∀ (w : World) (s₀ s₁ : Shared) (mg mb : Str → Option Value) (fa : Addr) (o : Obj) (pm cd doc : Value) (a : Addr) (vs : List Value) (ns : List Int),
      Ground q loose [] XP w s₀ mg mb s₁.heap → YP w s₁.heap →
      s₁.heap.get? fa = some o → o.data = .func (docDef d.name d.params d.body d.scope pm cd doc) → s₁.heap.CodeRec cd d.name → mg d.name = some (.ref fa) →
      s₁.heap.get? a = some { cls := .type "list", data := .seq vs.toArray } → IntsAre vs ns → ns.length ≤ n → s₁.gens = #[] →
      codeAny (model l.prog w) callerA (.call (.ref fa) ⟨[.ref a], []⟩) (fun r s' => r = .ok (.ret (.bool true)) ∧ OldK s₁.heap s'.heap ∧ s'.os = s₁.os ∧ AllBare s'.gens) s₁) :
    WalkO q loose XP YP l.row.toRowW d [] (fun f vs => PySem.call f vs) := by
  intro w s₀ s₁ mg mb G Y fa o pm cd doc dV kV ho hd hcd hD hmg hg args vals as hpre hlay hrd hwl hlo
  obtain rfl : dV = .none := Dflts.none hD hdf
  obtain rfl : kV = .none := Dflts.noKw hD
  obtain ⟨a, vs, ns, rfl, rfl, hobj, hints, hlen⟩ := script_of hn hpre hwl
  refine enter_call (codeAny_mono (call w s₀ s₁ mg mb fa o pm cd doc a vs ns G Y ho (fd_plain hd) hcd hmg hobj hints hlen hg) fun r s' hq => ?_)
  obtain ⟨rfl, h2, h3, h4⟩ := hq
  exact ⟨.inl ⟨.bool true, .bool true, [], rfl, fun _ => rfl, .bool true, post_true l _, fun _ => ⟨List.Pairwise.nil, fun _ hm => (nomatch hm)⟩⟩, h2, h3, h4⟩
section
variable {prog : Program} {w : World} {A : Around} {E : Value → Shared → Prop} {s : Shared} {K : Frag}
end
end Att
namespace L2
open PySem PySem.Spec PyProof.Rows
theorem vals_ints : ∀ {vs : List Value} {ns : List Int}, IntsAre vs ns → Vals (ns.map V.int) vs
  | _, _, .nil => .nil
  | _, _, .cons n t h => .cons ⟨t, rfl⟩ (vals_ints h)
def Only (H : Hp) : Prop := ∀ b, H b = none ∨ ∃ o xs, H b = some (.frz o (.lst xs))
theorem law_call {P : Program} {w : World} {K : PySem.W.Frag} {mg mb : Str → Option Value} {CX : CXT} {k : Nat} {fa a : Addr} {fd : FuncData} {x : Str} {sp : Sp} {s₁ : Shared} {vs : List Value} {ns : List Int}
    (KX : K.In s₁.heap) (hns : s₁.heap.Ns mainGlobals mg) (hb : s₁.heap.Ns builtinsNs mb) (hbb : ∀ x : Str, x ≠ "__name__" → mb x = bootBuiltins x) (hlim : s₁.heap.NoLimit) (hg : s₁.gens = #[])
    (ha : s₁.heap.get? a = some { cls := .type "list", data := .seq vs.toArray }) (hi : IntsAre vs ns) (hl : ns.length ≤ sizeLine) (hr : Room k callerA)
    (F : ∀ base : Heap, K.In base → base.Ns mainGlobals mg → FnOk P w K mg base CX k fa fd [x] sp) (hbind : ∀ (s : Shared) (u : Value), BindsTo s fd ⟨[u], []⟩ [(x, u)])
    (hsp : ∀ H : Hp, Only H → SqL K H a (ns.map V.int) → sp [.ref a] H (fun v _ => v = .bl true) fun _ _ _ => False)
    (hCX : ∀ H e s', CX [] H s₁ (fun _ _ _ => False) e s' → False) :
    codeAny (model P w) callerA (.call (.ref fa) ⟨[.ref a], []⟩) (fun r s' => r = .ok (.ret (.bool true)) ∧ OldK s₁.heap s'.heap ∧ s'.os = s₁.os ∧ AllBare s'.gens) s₁ := by
  have rv := vals_ints hi
  have lenV := hi.length
  -- from an abstract heap in which nothing but the script may be tracked
  have core : ∀ H : Hp, Only H → SqL K H a (ns.map V.int) → HOk P w H s₁.heap → (∀ b, H b ≠ none → b = a) → (H a ≠ none → K.lookup a = none) →
      codeAny (model P w) callerA (.call (.ref fa) ⟨[.ref a], []⟩) (fun r s' => r = .ok (.ret (.bool true)) ∧ OldK s₁.heap s'.heap ∧ s'.os = s₁.os ∧ AllBare s'.gens) s₁ := by
    intro H hO hS hok hA hK
    have base_of : ∀ {b : Addr} {o : Obj}, s₁.heap.get? b = some o → H b = none → (hidT s₁.heap H).get? b = some o := fun e n => hidT_get e n
    have noA : ∀ {b : Addr} {o : Obj} {es : Array DictEntry} {ep : Nat}, s₁.heap.get? b = some o → o.data = .dict es ep → H b = none := fun {b o es ep} e d => by
      cases q : H b with
      | none => rfl
      | some u =>
        have e' : b = a := hA b (by rw [q]; simp)
        subst e'
        rw [ha] at e; cases e
        have d' : Data.seq vs.toArray _ = Data.dict es ep := d
        cases d'
    have nsK : ∀ {b : Addr} {m : Str → Option Value}, s₁.heap.Ns b m → (hidT s₁.heap H).Ns b m := fun {b m} ⟨o, es, ep, e, d, r⟩ => ⟨o, es, ep, base_of e (noA e d), d, r⟩
    have hKb : K.In (hidT s₁.heap H) := fun b o e => base_of (KX b o e) (by
      cases q : H b with
      | none => rfl
      | some u =>
        have e' : b = a := hA b (by rw [q]; simp)
        subst e'
        rw [hK (by rw [q]; simp)] at e; cases e)
    have hM : Mod K mg (hidT s₁.heap H) := ⟨hKb, nsK hns, ⟨mb, nsK hb, hbb⟩, let ⟨mc, h1, h2⟩ := hlim; ⟨mc, nsK h1, h2⟩⟩
    have e0 : Env0 P w K mg (hidT s₁.heap H) callerA [] s₁ H := ⟨rfl, hM, fun b o e => of_hidT e, Nat.le_of_eq (hidT_size _ _), trivial, fun b hb => absurd (show b ∈ ([] : List Addr) from hb) (by simp), hok, .of_eq hg⟩
    refine codeAny_mono ((F _ hKb (nsK hns)).run callerA [] s₁ H ⟨[.ref a], []⟩ [.ref a] [.ref a] _ _ hr e0 (hbind s₁ (.ref a)) (.cons rfl .nil) (hsp H hO hS)) fun r s' h => ?_
    cases r with
    | error e => exact (hCX H e s' h).elim
    | ok fl =>
      cases fl with
      | next => exact False.elim h
      | brk => exact False.elim h
      | cont => exact False.elim h
      | ret u =>
        obtain ⟨v, H', os, bare, un, hok', r', q⟩ := h
        have q' : v = .bl true := q
        subst q'
        obtain rfl : u = Value.bool true := r'
        refine ⟨rfl, OldK.of_keep fun b o e => ?_, os, bare⟩
        cases q : H b with
        | none => exact un.keep b o e q (by intro z; exact absurd (show b ∈ ([] : List Addr) from z) (by simp)) (by simp)
        | some u =>
          rcases hO b with z | ⟨ob, xs, z⟩
          · rw [q] at z; cases z
          · have z2 := un.frzs b ob _ z
            obtain ⟨e1, _⟩ := hok b _ z
            obtain ⟨e2, _⟩ := hok' b _ z2
            rw [e] at e1; cases e1
            exact e2
  cases hk : K.lookup a with
  | some o =>
    -- the script is one of the module's own objects
    have e := KX a o hk
    rw [ha] at e
    cases e
    refine core (fun _ => none) (fun _ => .inl rfl) (.inr ⟨_, vs.toArray, _, hk, rfl, rfl, rfl, by rw [List.size_toArray, lenV]; exact hl, by simpa using rv⟩) (fun b u z => by have z' : (none : Option HO) = some u := z; cases z') (fun b z => absurd rfl z) fun z => absurd rfl z
  | none =>
    refine core (fun b => if b = a then some (.frz { cls := .type "list", data := .seq vs.toArray } (.lst (ns.map V.int))) else none) (fun b => ?_) (.inl (.inr ⟨{ cls := .type "list", data := .seq vs.toArray }, if_pos rfl⟩)) (fun b u z => ?_) (fun b z => ?_) fun _ => hk
    · by_cases hb : b = a
      · exact .inr ⟨_, _, if_pos hb⟩
      · exact .inl (if_neg hb)
    · by_cases hb : b = a
      · have z' := (if_pos hb).symm.trans z
        cases z'
        subst hb
        exact ⟨ha, by rw [List.length_map]; exact hl, vs, _, rv, ha⟩
      · have z' := (if_neg hb).symm.trans z
        cases z'
    · by_cases hb : b = a
      · exact hb
      · exact absurd (if_neg hb) z
end L2
namespace L2
open PySem PySem.Spec PyProof.Rows
theorem walk_of {l : PySem.W.OpenLaw} {n k : Nat} {q : Program} {loose : List Str} {XP : (Str → Option Value) → Heap → Prop} {YP : World → Heap → Prop} {d : DefRec} {K : Params → PySem.W.Frag} {CX : World → CXT} {sp : World → Sp} {x : Str}
    (hn : l.most = some n) (hn2 : n ≤ sizeLine) (hdf : d.params.defaults = []) (hr : Room k callerA)
    (hY : ∀ (w : World) (h : Heap), YP w h → (K w.params).In h)
    (F : ∀ (w : World) (mg : Str → Option Value) (fa : Addr) (h : Heap), (K w.params).In h → h.Ns mainGlobals mg → mg d.name = some (.ref fa) →
      ∃ fd : FuncData, (∀ (s : Shared) (u : Value), BindsTo s fd ⟨[u], []⟩ [(x, u)]) ∧
        ∀ base : Heap, (K w.params).In base → base.Ns mainGlobals mg → FnOk l.prog w (K w.params) mg base (CX w) k fa fd [x] (sp w))
    (hsp : ∀ (w : World) (H : Hp) (a : Addr) (ns : List Int), ns.length ≤ n → Only H → SqL (K w.params) H a (ns.map V.int) → sp w [.ref a] H (fun v _ => v = .bl true) fun _ _ _ => False)
    (hCX : ∀ (w : World) (H : Hp) (s : Shared) (e : Value) (s' : Shared), CX w [] H s (fun _ _ _ => False) e s' → False) :
    PySem.W.WalkO q loose XP YP l.row.toRowW d [] (fun f vs => PySem.call f vs) := by
  refine Att.attach_call hn hdf fun w s₀ s₁ mg mb fa o pm cd doc a vs ns G Y ho hd hcd hmg hobj hints hlen hg => ?_
  have KX := hY w _ Y
  obtain ⟨fd, hb, hF⟩ := F w mg fa _ KX G.T.g hmg
  exact law_call KX G.T.g G.T.b G.T.builtins G.T.nolimit hg hobj hints (Nat.le_trans hlen hn2) hr hF hb (fun H hO hS => hsp w H a ns hlen hO hS) fun H e s' => hCX w H s₁ e s'
end L2
namespace L2
open PySem PySem.Spec PyProof.Rows
def inClass (s : Stmt) (j : Nat) : Stmt := match s with
  | .ClassDef _ _ _ body _ _ _ _ _ _ _ => body.getD j (.Pass ⟨0, 0, 0, 0⟩)
  | _ => .Pass ⟨0, 0, 0, 0⟩
def defArgs (s : Stmt) : Arguments := match s with
  | .FunctionDef _ a _ _ _ _ _ _ _ _ => a
  | _ => { posonlyargs := [], args := [], vararg := none, kwonlyargs := [], kw_defaults := [], kwarg := none, defaults := [] }
def defBody (s : Stmt) : List Stmt := match s with
  | .FunctionDef _ _ b _ _ _ _ _ _ _ => b
  | _ => []
def defScope (s : Stmt) : Scope := match s with
  | .FunctionDef _ _ _ _ _ _ sc _ _ _ => sc
  | _ => { kind := .function, names := [], isGenerator := false, isCoroutine := false }
abbrev CX0 : CXT := fun _ _ _ _ _ _ => False
abbrev E0 : XK := fun _ _ _ => False
structure Fun (K : PySem.W.Frag) (x qual : Str) (st : Stmt) (f : Addr) (fd : FuncData) : Prop where
  ex : ∃ (oc : Value) (od : Option Addr) (kV doc pm : Value) (an : Option Addr) (cdv ct : Value) (osl : Array (Option Value)),
    fd = PySem.W.fnOf x qual (defArgs st) (defBody st) (defScope st) .none kV doc pm an cdv ct ∧ K.lookup f = some ⟨oc, od, .func fd, osl⟩ ∧ PySem.W.codeIn K cdv qual = true
  kp : PySem.W.keepIn K (.ref f) = true
section
variable {P : Program} {w : World} {K : PySem.W.Frag} {mg : Str → Option Value} {base : Heap}
theorem Fun.binds {x qual : Str} {st : Stmt} {f : Addr} {fd : FuncData} {ps : List Str} (F : Fun K x qual st f fd)
    (h : ∀ (kV doc pm : Value) (an : Option Addr) (cdv ct : Value) (us : List Value), us.length = ps.length → bindArgs (PySem.W.fnOf x qual (defArgs st) (defBody st) (defScope st) .none kV doc pm an cdv ct) ⟨us, []⟩ = pure (ps.zip us)) : Binds K fd ps [] := by
  obtain ⟨oc, od, kV, doc, pm, an, cdv, ct, osl, rfl, lk, hcd⟩ := F.ex
  exact .all (h kV doc pm an cdv ct)
theorem fun_mk {x qual : Str} {st : Stmt} {f : Addr} {oc : Value} {od an : Option Addr} {osl : Array (Option Value)} {kV doc pm cdv ct : Value} (l : K.lookup f = some ⟨oc, od, .func (PySem.W.fnOf x qual (defArgs st) (defBody st) (defScope st) .none kV doc pm an cdv ct), osl⟩)
    (c : PySem.W.codeIn K cdv qual = true) (k : PySem.W.keepIn K (.ref f) = true) : Fun K x qual st f (PySem.W.fnOf x qual (defArgs st) (defBody st) (defScope st) .none kV doc pm an cdv ct) := ⟨⟨oc, od, kV, doc, pm, an, cdv, ct, osl, rfl, l, c⟩, k⟩
end
theorem hu_of {A : Around} {k : Nat} (hr : Room k A) : A.units + 1 < cLine := Nat.lt_of_le_of_lt (Nat.add_le_add_left (by decide : 1 ≤ 64) _) hr.units
section
variable {X : Cx}
theorem pv (i : Nat) {x : Str} {pos : Pos} (hN : X.N[i]? = some x := by rfl) (hv : Vis X.env.scope x := by first | exact Or.inl rfl | exact Or.inr (Or.inl rfl) | exact Or.inr (Or.inr rfl)) (hd : (x == ("__debug__" : Str)) = false := by decide)
    (hcd : (x == ("__classdict__" : Str)) = false := by decide) : PE X (.Name x pos) (tVar i) := pe_var hN hv hd hcd
end
theorem iteF {A B : Prop} (h : B) : if false = true then A else B := by
  rw [if_neg Bool.false_ne_true]
  exact h
theorem iteT {A B : Prop} (h : A) : if true = true then A else B := by
  rw [if_pos rfl]
  exact h
def Same (H H' : Hp) : Prop := ∀ b o, H b = some o → H' b = some o
theorem Same.refl (H : Hp) : Same H H := fun _ _ h => h
theorem Same.trans {H H1 H2 : Hp} (a : Same H H1) (b : Same H1 H2) : Same H H2 := fun c o h => b c o (a c o h)
theorem Same.free {H H' : Hp} (e : Same H H') {l : Addr} (h : H' l = Option.none) : H l = Option.none := by
  cases q : H l with
  | none => rfl
  | some o =>
    rw [e l o q] at h
    cases h
theorem Same.seq {K : PySem.W.Frag} {H H' : Hp} {a : Addr} {xs : List V} (e : Same H H') (h : SqL K H a xs) : SqL K H' a xs := by
  rcases h with (h | ⟨o, h⟩) | h
  · exact .inl (.inl (e _ _ h))
  · exact .inl (.inr ⟨o, e _ _ h⟩)
  · exact .inr h
end L2
namespace L2
open PySem PySem.Spec PyProof.Rows
section
variable {X : Cx}
theorem call_lenD : CallR X (.builtin "len") (fun xs H Q => ∃ a kvs, xs = [V.ref a] ∧ H a = some (.dK kvs) ∧ Q (.int kvs.length) H) := by
  intro pins s σ H xs us Q I r h
  obtain ⟨a, kvs, rfl, ha, q⟩ := h
  obtain ⟨u, rfl, ru⟩ := vals1 r
  cases ru
  exact d_len I (.inl ha) fun t s' I' => ⟨.int kvs.length, H, I', ⟨t, rfl⟩, q⟩
end
section
variable {κ : Type} [DecidableEq κ]
end
end L2
set_option Elab.async false
set_option linter.all false
set_option maxRecDepth 100000
namespace L2
open PySem PySem.Spec PyProof.Rows
def Cx.comp (X : Cx) (Nc : List Str) (scope : Scope) (cl : List (Str × Addr)) (C : Addr) (s₂ : Shared) (H₁ : Hp) (fp : List Addr) : Cx where
  prog := X.prog
  w := X.w
  K := X.K
  mg := X.mg
  base := X.base
  A := X.A
  N := Nc
  s₀ := s₂
  H₀ := H₁
  env := compEnvC scope cl C X.env
  outer := X.stack
  stack := X.stack
  ex := fp
  fn := fun _ => false
  calm := X.calm
  pn := []
  xe := fun _ _ => False
structure CompTxt (X : Cx) (Nc : List Str) (own : Nat) (js : List Nat) (scope : Scope) (cl : List (Str × Addr)) : Prop where
  clos : closureFor scope X.env = pure cl
  kind : scope.kind = .function
  nocell : ∀ y ∈ scope.names, y.2 ≠ .cell
  names : ∀ y ∈ scope.names, y.2 = .local → scope.names.lookup y.1 = some .local
  cells : ∀ x c, cl.lookup x = some c → X.env.cells.lookup x = some c
  has : ∀ x, ((relabel scope X.env).names.lookup x = some .cell ∨ (relabel scope X.env).names.lookup x = some .free) → ∃ c, cl.lookup x = some c
  len : Nc.length = own + js.length
  outer : ∀ i x, Nc[own + i]? = some x → ∃ j, js[i]? = some j ∧ X.N[j]? = some x ∧ X.env.scope.names.lookup x = some .cell ∧ (relabel scope X.env).names.lookup x = some .cell
def compStart0 (own : Nat) (js : List Nat) (σ : St) : St := List.replicate own none ++ js.map fun j => (σ[j]?).getD none
def tComp (own : Nat) (js : List Nat) (wi : TI) (g : TG) (tc : TT) (te : TE) : TE := fun σ H Q => wi σ H fun J H1 => ∀ p, H1 p = none →
  ∃ W : Nat → Nat → List V → St → Hp → Prop, (∃ m, W 0 m [] (compStart0 own js σ) (upd H1 p (.lst []))) ∧ ∀ i m ys σc Hc, W i m ys σc Hc →
    (J.stop i Hc ∧ Q (.ref p) Hc) ∨ (J.go i Hc ∧ ∀ x H', J.yld i Hc x H' → g x σc H' fun σ2 H2 => tc σ2 H2 fun b H3 =>
      if b = true then te σ2 H3 fun y H4 => H4 p = some (.lst ys) ∧ ys.length < sizeLine ∧ ∃ m', m' < m ∧ W (i + 1) m' (ys ++ [y]) σ2 (upd H4 p (.lst (ys ++ [y])))
      else ∃ m', m' < m ∧ W (i + 1) m' ys σ2 H3)
def PTs (X : Cx) (ifs : List Expr) (t : TT) : Prop :=
  ∀ (pins : List (Addr × Obj)) (s : Shared) (σ : St) (H : Hp) (Q : Bool → Hp → Prop), Inv X pins σ H s → t σ H Q →
    wpAny (model X.prog X.w) X.A (forIn ifs true fun c r => if r = true then do let ok ← isTrue c X.env (eval c X.env); pure (ForInStep.yield ok) else pure (ForInStep.yield r)) (TP X pins σ Q) X.xe s
def tYes : TT := fun _ H Q => Q true H
theorem pts_nil {X : Cx} : PTs X [] tYes := fun pins s σ H Q I h => wpAny_tests_nil ⟨H, I, h⟩
theorem pts_one {X : Cx} {c : Expr} {t : TT} (h : PT X c t) : PTs X [c] t := fun pins s σ H Q I q => wpAny_tests_one (h pins s σ H Q I q)
section
variable {prog : Program} {w : World} {A : Around} {E : Value → Shared → Prop} {R : Result → Shared → Prop} {s : Shared}
theorem compLoop_go {elt target iter : Expr} {ifs : List Expr} {scope : Scope} {pos : Pos} {it acc : Value} {env : Env} (I : Nat → Shared → Prop)
    (turn : ∀ n s, I n s → wpAny (model prog w) A (pyNext it) (fun r s₁ => match r with
      | none => R (.ok .next) s₁
      | some v => wpAny (model prog w) A (letOwnedTupleGo target it v) (fun _ s₁' => wpAny (model prog w) A (assign target env v) (fun _ s₂ =>
          wpAny (model prog w) A (forIn ifs true fun c r => if r = true then do let ok ← isTrue c env (eval c env); pure (ForInStep.yield ok) else pure (ForInStep.yield r)) (fun ok s₃ =>
            if ok = true then wpAny (model prog w) A (eval elt env) (fun x s₄ =>
              wpAny (model prog w) A (call (.builtin "list.append") [acc, x]) (fun _ s₅ => ∃ m, m < n ∧ I m s₅) (fun _ _ => False) s₄) (fun _ _ => False) s₃
            else ∃ m, m < n ∧ I m s₃) (fun _ _ => False) s₂) (fun _ _ => False) s₁') (fun _ _ => False) s₁) (fun _ _ => False) s)
    (n : Nat) (h : I n s) :
    codeAny (model prog w) A (.compLoop (.ListComp elt [⟨target, iter, ifs, 0⟩] scope pos) 0 it acc env) R s := by
  refine codeAny_loop rfl I (fun n s hI => ?_) n h
  show wpAny _ A ((compTurn (.ListComp elt [⟨target, iter, ifs, 0⟩] scope pos) 0 it acc env).onRaise (fun x => do noteFrame x env; theTreesLotGoes x)) _ _ s
  refine wpAny_noted ?_
  rw [compTurn_list]
  refine wpAny_bind (wpAny_standAt (wpAny_bind (wpAny_mono (turn n s hI) (fun r s₁ h₁ => ?_) fun _ _ h' => h'.elim)))
  cases r with
  | none => exact wpAny_pure h₁
  | some v =>
    refine wpAny_bind (wpAny_mono h₁ (fun _ s₁' h₁' => ?_) fun _ _ h' => h'.elim)
    refine wpAny_bind (wpAny_mono h₁' (fun _ s₂ h₂ => wpAny_bind (wpAny_mono h₂ (fun ok s₃ h₃ => ?_) fun _ _ h' => h'.elim)) fun _ _ h' => h'.elim)
    cases ok with
    | true =>
      rw [if_pos rfl] at h₃
      simp only [if_true]
      exact wpAny_bind (wpAny_bind (wpAny_mono h₃ (fun x s₄ h₄ => wpAny_bind (wpAny_mono h₄ (fun _ s₅ h₅ => wpAny_pure (wpAny_pure ⟨rfl, h₅⟩)) fun _ _ h' => h'.elim)) fun _ _ h' => h'.elim))
    | false =>
      rw [if_neg Bool.false_ne_true] at h₃
      simp only [Bool.false_eq_true, if_false]
      first
        | exact wpAny_pure ⟨rfl, h₃⟩
        | exact wpAny_bind (wpAny_pure (wpAny_pure ⟨rfl, h₃⟩))
end
end L2
set_option Elab.async false
set_option linter.all false
set_option maxRecDepth 100000
namespace L2
open PySem PySem.Spec PyProof.Rows
section
variable {X : Cx} {Nc : List Str} {own : Nat} {js : List Nat} {scope : Scope} {cl : List (Str × Addr)}
theorem comp_ok {pins : List (Addr × Obj)} {σ : St} {H₁ : Hp} {s₂ : Shared} {C : Addr} {fp : List Addr} (T : CompTxt X Nc own js scope cl) (I : Inv X pins σ H₁ s₂) (hC : s₂.heap.objs.size ≤ C)
    (f1 : ∀ b ∈ fp, FpOk X pins H₁ b) (hlt : ∀ b ∈ fp, b < s₂.heap.objs.size) : (X.comp Nc scope cl C s₂ H₁ fp).Ok where
  mod := I.ok.mod
  kind := by show (relabel scope X.env).kind = _; exact T.kind
  glob := I.ok.glob
  blt := I.ok.blt
  above := hC
  inj := fun x y c h1 h2 => I.ok.inj x y c (T.cells x c h1) (T.cells y c h2)
  has := fun x h => T.has x h
  cab := fun x c h => by cases h
  hd := I.ok.hd
  frames := I.ok.frames
  stk := .inl rfl
  exf := fun b hb => ⟨Nat.ne_of_lt (Nat.lt_of_lt_of_le (hlt b hb) hC), fun x c h => (f1 b hb).2.2.2.2.1 x c (T.cells x c h)⟩
  bs := I.bs
  bsz := Nat.le_trans I.ok.bsz I.sz
  noex := fun b o e hb => by
    rcases (f1 b hb).2.2.2.1 with z | z
    · exact I.ok.noex b o e z
    · exact absurd (Nat.lt_of_lt_of_le (Heap.lt_size (I.ok.bs b o e).1) z) (Nat.lt_irrefl _)
  exfs := fun b hb hs => by
    rcases List.mem_cons.mp (I.stkSub b hs) with z | z
    · exact (f1 b hb).2.1 z
    · exact (f1 b hb).2.2.1 z
  funs := I.stack
  frf := I.stkFree
theorem comp_inv {pins : List (Addr × Obj)} {σ : St} {H₁ : Hp} {s₂ : Shared} {C D : Addr} {fp : List Addr} {h₁ : Heap} {t : Nat} {m : Str → Option Value} (T : CompTxt X Nc own js scope cl) (I : Inv X pins σ H₁ s₂) (hC : s₂.heap.objs.size ≤ C)
    (hD : s₂.heap.objs.size ≤ D) (hDC : D ≠ C) (f1 : ∀ b ∈ fp, FpOk X pins H₁ b) (hlt : ∀ b ∈ fp, b < s₂.heap.objs.size) (old : ∀ b o, s₂.heap.get? b = some o → h₁.get? b = some o) (hns : h₁.Ns C m)
    (hacc : ∃ n, h₁.get? D = some { cls := .type "list", data := .seq ([] : List Value).toArray n }) :
    Inv (X.comp Nc scope cl C s₂ H₁ fp) [] (compStart0 own js σ) (upd H₁ D (.lst [])) { s₂ with heap := h₁, toks := t } := by
  obtain ⟨na, hacc⟩ := hacc
  have cellK : ∀ c v, s₂.heap.IsCell c v → h₁.IsCell c v := fun c v ⟨o, ho, hd⟩ => ⟨o, old c o ho, hd⟩
  refine ⟨comp_ok T I hC f1 hlt, rfl, I.bare, Un.laid old hD (I.hok.fresh hD), ⟨m, hns, fun i x v e1 e2 e3 => ?_⟩, fun x c e => ?_, ?_, fun x c e => ?_, fun p hp => (by cases hp), I.hok.laid old hD ?_, ?_⟩
  · have hN : Nc[i]? = some x := e1
    have hσ : (compStart0 own js σ)[i]? = some (some v) := e2
    unfold compStart0 at hσ
    by_cases hi : i < own
    · rw [List.getElem?_append_left (by simpa using hi), List.getElem?_replicate] at hσ
      simp [hi] at hσ
    · obtain ⟨k, rfl⟩ : ∃ k, i = own + k := ⟨i - own, by omega⟩
      rw [List.getElem?_append_right (by simp)] at hσ
      simp only [List.length_replicate, Nat.add_sub_cancel_left, List.getElem?_map] at hσ
      obtain ⟨j, hj, hx, hk, hr⟩ := T.outer k x hN
      rw [hj] at hσ
      replace hσ : some (σ[j]?.getD none) = some (some v) := hσ
      have hσj : σ[j]? = some (some v) := by
        cases q : σ[j]? with
        | none => rw [q] at hσ; simp at hσ
        | some y => rw [q] at hσ; simpa using hσ
      obtain ⟨m0, hn0, hl0⟩ := I.loc
      obtain ⟨u, ru, lk⟩ := hl0 j x v hx hσj (.inr (.inl hk))
      refine ⟨u, ru, .inr ⟨.inl hr, ?_⟩⟩
      rcases lk with ⟨z, _⟩ | ⟨_, c, hc, hcell⟩
      · have z' : X.env.scope.names.lookup x = some .local := z
        rw [hk] at z'; cases z'
      · obtain ⟨c', hc'⟩ := T.has x (.inl hr)
        have := T.cells x c' hc'
        rw [hc] at this; cases this
        exact ⟨c, hc', cellK c _ hcell⟩
  · obtain ⟨v, z⟩ := I.cell x c (T.cells x c e)
    exact ⟨v, cellK c v z⟩
  · show upd H₁ D (.lst []) C = none
    rw [upd_ne (Ne.symm hDC)]
    exact I.hok.fresh hC
  · have e' := T.cells x c e
    obtain ⟨v, o, ho, _⟩ := I.cell x c e'
    rw [upd_ne (Nat.ne_of_lt (Nat.lt_of_lt_of_le (Heap.lt_size ho) hD))]
    exact I.freeC x c e'
  · exact ⟨Nat.zero_le _, [], na, .nil, hacc⟩
  · show (compStart0 own js σ).length = Nc.length
    rw [T.len]
    simp [compStart0]
theorem comp_back {pins : List (Addr × Obj)} {σ σc : St} {H₁ H' : Hp} {s₂ s' : Shared} {C : Addr} {fp : List Addr} {h' : Heap} (I : Inv X pins σ H₁ s₂) (hC : s₂.heap.objs.size ≤ C)
    (f1 : ∀ b ∈ fp, FpOk X pins H₁ b) (I' : Inv (X.comp Nc scope cl C s₂ H₁ fp) [] σc H' s') (hs : Heap.SameBut C s'.heap h') : Inv X pins σ H' { s' with heap := h' } := by
  have u : Un (frs X.stack) fp H₁ H' s₂.heap s'.heap := I'.base
  have ne : ∀ b o, s₂.heap.get? b = some o → b ≠ C := fun b o e => Nat.ne_of_lt (Nat.lt_of_lt_of_le (Heap.lt_size e) hC)
  have k : ∀ b o, b ≠ C → s'.heap.get? b = some o → h'.get? b = some o := fun b o n e => hs.extBut b o n e
  have u' : Un (frs X.stack) fp H₁ H' s₂.heap h' := ⟨fun b o e n hb hx => k b o (ne b o e) (u.keep b o e n hb hx), fun b o e n hb hx => let ⟨sl, q⟩ := u.slot b o e n hb hx; ⟨sl, k b _ (ne b o e) q⟩,
    u.free, fun b o e hx => let ⟨o', q⟩ := u.there b o e hx; ⟨o', k b o' (ne b o e) q⟩, u.tups, u.frzs, u.tbls⟩
  have hfree : H' C = none := I'.free
  have hok' : HOk X.prog X.w H' h' := fun a o e => (I'.hok a o e).stay (fun b v hb q => k b v (fun z => by
    rcases hb with y | y
    · rw [y] at z; rw [z, hfree] at e; cases e
    · rw [z, hfree] at y; cases y) q) (fun _ q => q) fun _ _ q => q
  exact I.call' (s' := { s' with heap := h' }) (ch := fp) I'.os u' hok' I'.bare fun b hb => ⟨(f1 b hb).2.2.2.1, (f1 b hb).2.1, (f1 b hb).2.2.2.2.1, (f1 b hb).2.2.2.2.2⟩
theorem pe_comp {elt target iter : Expr} {ifs : List Expr} {pos : Pos} {wi : TI} {g : TG} {tc : TT} {te : TE} (hc : X.calm = true) (T : CompTxt X Nc own js scope cl)
    (hi : PI X target iter wi) (hg : ∀ C s₂ H₁ fp, PG (X.comp Nc scope cl C s₂ H₁ fp) target g) (ht : ∀ C s₂ H₁ fp, PTs (X.comp Nc scope cl C s₂ H₁ fp) ifs tc)
    (he : ∀ C s₂ H₁ fp, PE (X.comp Nc scope cl C s₂ H₁ fp) elt te) (hs : ∀ x, foldedSetIterable iter X.env x = pure x := by intro _; rfl) :
    PE X (.ListComp elt [⟨target, iter, ifs, 0⟩] scope pos) (tComp own js wi g tc te) := by
  intro pins s σ H Q I h
  rw [eval_ListComp]
  refine wpAny_comprehension_free (use := none) rfl hs T.clos T.kind T.names (thn (hi pins s σ H _ I h) fun v s1 h1 => thn h1 fun itv s2 h2 => ?_)
  obtain ⟨it, fp, tn, J, H1, rfl, I1, Tn, st, f1, R⟩ := h2
  have hfp : ∀ b ∈ fp, b < s2.heap.objs.size := fun b hb => let ⟨o, e, _⟩ := Tn.obj _ _ st b hb; Heap.lt_size e
  refine wpAny_newObj_type (wpAny_newFunctionEnv T.nocell (by intro y hy; simp at hy) (fun h₁ hns₁ hsb₁ => ?_) T.kind)
  dsimp only at hns₁ hsb₁ ⊢
  generalize hH2 : s2.heap.push { cls := .type "list", dict := none, data := .seq ([] : List Value).toArray } = H2 at hns₁ hsb₁ ⊢
  have hC : H2.objs.size = s2.heap.objs.size + 1 := by rw [← hH2, Heap.size_push]
  have hDC : s2.heap.objs.size ≠ H2.objs.size := by rw [hC]; exact Nat.ne_of_lt (Nat.lt_succ_self _)
  have hCle : s2.heap.objs.size ≤ H2.objs.size := by rw [hC]; exact Nat.le_succ _
  have below : ∀ b, b < s2.heap.objs.size → b ≠ H2.objs.size := fun b hb => by rw [hC]; exact Nat.ne_of_lt (Nat.lt_succ_of_lt hb)
  have old : ∀ b o, s2.heap.get? b = some o → h₁.get? b = some o := fun b o e => hsb₁.extBut b o (below b (Heap.lt_size e)) (Heap.get?_push_of_some _ (hH2 ▸ Heap.get?_push_of_some _ e))
  have hacc : ∃ n, h₁.get? s2.heap.objs.size = some { cls := .type "list", data := .seq ([] : List Value).toArray n } := ⟨_, hsb₁.extBut _ _ hDC (Heap.get?_push_of_some _ (hH2 ▸ Heap.get?_push_size _ rfl))⟩
  have st₁ : tn 0 h₁ := Tn.keep _ _ _ st fun b _ o e => old b o e
  obtain ⟨W, ⟨m0, w0⟩, turn⟩ := R s2.heap.objs.size I1.fresh
  have Ic := comp_inv (t := s2.toks + ([] : List (Str × Value)).length) T I1 hCle (Nat.le_refl _) hDC f1 hfp old hns₁ hacc
  generalize hXc : X.comp Nc scope cl H2.objs.size s2 H1 fp = Xc at Ic
  have stat : ∀ {H' : Hp}, (∀ b ∈ fp, H' b = none) → ∀ b ∈ fp, FpOk Xc [] H' b := fun {H'} hn b hb => by
    subst hXc
    exact ⟨hn b hb, below b (hfp b hb), (comp_ok T I1 hCle f1 hfp).exfs b hb, .inl hb, fun x c e => (f1 b hb).2.2.2.2.1 x c (T.cells x c e), fun p hp => by cases hp⟩
  have fr0 : ∀ b ∈ fp, upd H1 s2.heap.objs.size (.lst []) b = none := fun b hb => by
    rw [upd_ne (Nat.ne_of_lt (hfp b hb))]
    exact (f1 b hb).1
  have calmc : Xc.calm = true := by subst hXc; exact hc
  have loop : ∀ s₃ : Shared, s₃ = { s2 with heap := h₁, toks := s2.toks + ([] : List (Str × Value)).length } →
      codeAny (model X.prog X.w) X.A (.compLoop (.ListComp elt [⟨target, iter, ifs, 0⟩] scope pos) 0 (.ref it) (.ref s2.heap.objs.size) (compEnvC scope cl H2.objs.size X.env))
        (compPost (model X.prog X.w) X.A X.xe none (EP X pins σ Q) (.ref s2.heap.objs.size) H2.objs.size) s₃ := by
    rintro s₃ rfl
    refine compLoop_go (fun n s' => ∃ i ys σ' H', Inv Xc [] σ' H' s' ∧ tn i s'.heap ∧ (∀ b ∈ fp, H' b = none) ∧ W i n ys σ' H') ?_ m0 ⟨0, [], _, _, Ic, st₁, fr0, w0⟩
    rintro n s3 ⟨i, ys, σ3, H3, I3, st3, fr3, w3⟩
    rcases turn i n ys σ3 H3 w3 with ⟨stop, q⟩ | ⟨go, step⟩
    · subst hXc
      refine thn (Tn.done (X.comp Nc scope cl H2.objs.size s2 H1 fp) rfl rfl rfl hc i [] s3 σ3 H3 _ I3 (stat fr3) st3 stop) fun r s4 ⟨hr, I4⟩ => ?_
      subst hr
      obtain ⟨m4, hn4, _⟩ := id I4.loc
      exact ⟨m4, hn4, fun h' hs' => ⟨.ref s2.heap.objs.size, H3, comp_back I1 hCle f1 I4 hs', rfl, q⟩⟩
    · subst hXc
      refine thn (Tn.item (X.comp Nc scope cl H2.objs.size s2 H1 fp) rfl rfl rfl hc i [] s3 σ3 H3 _ I3 (stat fr3) st3 go) fun r s4 ⟨u, hr, h4⟩ => ?_
      subst hr
      refine thn h4 fun _ s5 ⟨x, H5, I5, r5, y5, st5, fr5⟩ => ?_
      have I5' := I5.pinned (stat fr5) (Tn.obj _ _ st5)
      have back : ∀ {σ7 : St} {H7 : Hp} {s7 : Shared}, Inv (X.comp Nc scope cl H2.objs.size s2 H1 fp) ([] ++ pinsAt fp s5.heap) σ7 H7 s7 → Inv (X.comp Nc scope cl H2.objs.size s2 H1 fp) [] σ7 H7 s7 ∧ tn (i + 1) s7.heap ∧ ∀ b ∈ fp, H7 b = none := fun {σ7 H7 s7} I7 => by
        refine ⟨I7.unpinned, Tn.keep _ _ _ st5 fun b hb o e => (I7.pin (b, o) (List.mem_append_right _ (List.mem_append_right _ (mem_pinsAt hb e)))).1, fun b hb => ?_⟩
        obtain ⟨o, e, d⟩ := Tn.obj _ _ st5 b hb
        exact (I7.pin (b, o) (List.mem_append_right _ (List.mem_append_right _ (mem_pinsAt hb e)))).2.1
      refine thn (hg _ _ _ _ _ s5 σ3 H5 x u _ I5' r5 (step x H5 y5)) fun _ s6 ⟨σ6, H6, I6, q6⟩ => ?_
      refine thnT (ht _ _ _ _ _ s6 σ6 H6 _ I6 q6) fun ok s7 H7 I7 q7 => ?_
      cases ok with
      | false =>
        rw [if_neg Bool.false_ne_true] at q7 ⊢
        obtain ⟨m', hm, w7⟩ := q7
        obtain ⟨J1, J2, J3⟩ := back I7
        exact ⟨m', hm, i + 1, ys, σ6, H7, J1, J2, J3, w7⟩
      | true =>
        rw [if_pos rfl] at q7 ⊢
        refine thnE (he _ _ _ _ _ s7 σ6 H7 _ I7 q7) fun y s8 yv H8 I8 r8 ⟨hp8, hl8, m', hm, w8⟩ => ?_
        refine thn (mt_append _ s8 σ6 H8 (.ref s2.heap.objs.size) [yv] _ [y] (fun v' H' => W (i + 1) m' (ys ++ [yv]) σ6 H') I8 rfl (.cons r8 .nil) ⟨_, ys, yv, rfl, rfl, hp8, hl8, w8⟩) fun v9 s9 ⟨_, H9, I9, _, w9⟩ => ?_
        obtain ⟨J1, J2, J3⟩ := back I9
        exact ⟨m', hm, i + 1, ys ++ [yv], σ6, H9, J1, J2, J3, w9⟩
  exact codeAny_compStart_list (loop _ rfl) (Tn.self _ 0 _ _ _ st₁ (loop _ rfl))
end
end L2
set_option Elab.async false
set_option linter.all false
set_option maxRecDepth 100000
namespace L2
open PySem PySem.Spec PyProof.Rows
section
variable {X : Cx}
def rInsert : V → List V → Hp → VK → Prop := fun x vs H Q => ∃ (l : Addr) (xs : List V) (i : Int) (y : V), x = .ref l ∧ vs = [.int i, y] ∧ H l = some (.lst xs) ∧ 0 ≤ i ∧ i ≤ xs.length ∧ xs.length < sizeLine ∧ Q .non (upd H l (.lst (xs.take i.toNat ++ y :: xs.drop i.toNat)))
theorem mt_insert : MtM X "list.insert" rInsert := by
  intro pins s σ H x vs v us Q I rx rv h
  obtain ⟨l, xs, i, y, rfl, rfl, hH, h0, hk, hz, q⟩ := h
  cases rx
  obtain ⟨u1, u2, rfl, ⟨t, rfl⟩, ru⟩ := rv.two
  obtain ⟨z, its, n, r, hl, e⟩ := I.lstM hH
  have hn := line63
  have hf : Builtin.List.listFitsIndex i = true := by
    unfold Builtin.List.listFitsIndex
    rw [Bool.and_eq_true]
    exact ⟨decide_eq_true (by omega), decide_eq_true (by omega)⟩
  have hf' : ¬ (!Builtin.List.listFitsIndex i) = true := by rw [hf]; decide
  have hzz : its.toArray.size ≤ sizeLine := by rw [List.size_toArray, ← hl]; exact z
  refine call_meets PySem.F.slot_list_insert ⟨_, e, rfl⟩ PySem.F.entry_list_insert (PySem.F.args_list_insert_3 _ _ _) (PySem.AutoSeq1.list_insert_list_int_val_1 l its.toArray n i t u2 hf' hzz) ⟨e, ?_⟩
  refine ⟨.non, _, I.lset (its' := its.take i.toNat ++ u2 :: its.drop i.toNat) hH e ?_ ((r.take i.toNat).append (.cons ru (r.drop i.toNat))) ?_, rfl, q⟩
  · show (its.toArray.extract 0 (if i < 0 then (i + (its.toArray.size : Int)).toNat else min i.toNat its.toArray.size)).push u2 ++ its.toArray.extract (if i < 0 then (i + (its.toArray.size : Int)).toNat else min i.toNat its.toArray.size) = _
    have e0 : (if i < 0 then (i + (its.toArray.size : Int)).toNat else min i.toNat its.toArray.size) = i.toNat := by
      rw [if_neg (by omega), List.size_toArray]
      omega
    rw [e0]
    exact PySem.W.kl_ins_eq its i.toNat u2
  · rw [List.length_append, List.length_cons, List.length_take, List.length_drop]
    omega
theorem op_mulB : OpR X (binaryOp .Mult) (rI (fun i j => IntMulOk i j) fun i j => .int (i * j)) := opI fun i j t u s Q E h q => PyProof.Rows.mul_int q h
def rIsinst (K : PySem.W.Frag) : List V → Hp → VK → Prop := fun xs H Q => ∃ x c t b, xs = [x, c] ∧ TyOf K H x t ∧ (∀ cv, RelV c cv → PySem.W.kitOne K t cv = some b) ∧ Q (.bl b) H
theorem call_isinst : CallR X (.builtin "isinstance") (rIsinst X.K) := by
  intro pins s σ H xs us Q I r h
  obtain ⟨x, c, t, b, rfl, ty, hk, q⟩ := h
  obtain ⟨u, cv, rfl, ru, rc⟩ := vals2 r
  exact isinst_ok I ru ty (hk cv rc) fun tk => ⟨.bl b, H, I.tok tk, rfl, q⟩
theorem call_all (hc : X.calm = true) : CallR X (.builtin "all") (fun xs H Q => ∃ (p : Addr) (bs : List Bool), xs = [.ref p] ∧ SqL X.K H p (bs.map V.bl) ∧ Q (.bl (bs.all id)) H) := by
  intro pins s σ H xs us Q I r h
  obtain ⟨p, bs, rfl, hp, q⟩ := h
  obtain ⟨u, rfl, ru⟩ := vals1 r
  cases ru
  obtain ⟨its, rv, pl, hz⟩ := I.list hp
  have hl := pl.isList
  have hlt := pl.lt
  have hh : X.A.in1.handled = none := I.ok.hd hc
  have hlen : its.length = bs.length := by rw [← rv.length, List.length_map]
  refine call_all_walk (wpAny_pyIter_list hl ?_)
  refine ⟨s.heap.objs.size, [s.heap.objs.size, p], [s.heap.objs.size], its.toArray.size, _, _, fun i => (bs[i]?).getD true, rfl, Walks.list (A := X.A.in1) hh _ p (Nat.ne_of_lt hlt) its.toArray,
    ⟨⟨_, Heap.get?_push_size _ rfl, rfl, rfl⟩, hl.push _⟩, fun i v s' Q' E' hP hQ => ?_, fun h' tk hk => ?_⟩
  · have hi : its[i]? = some v := by simpa using hP
    have hib : i < bs.length := by rw [← hlen]; exact (List.getElem?_eq_some_iff.mp hi).1
    obtain ⟨u, hu, ru⟩ := rv.get (i := i) (x := V.bl bs[i]) (by rw [List.getElem?_map, List.getElem?_eq_getElem hib]; rfl)
    rw [hi] at hu; cases hu
    cases ru
    replace hQ : Q' (bs[i]?.getD true) s' := hQ
    rw [List.getElem?_eq_getElem hib] at hQ
    exact wpAny_truthy_bool hQ
  · have e : ((List.range its.toArray.size).all fun i => (bs[i]?).getD true) = bs.all id := by
      rw [List.size_toArray, hlen]
      rw [Bool.eq_iff_iff, List.all_eq_true, List.all_eq_true]
      constructor
      · intro z b hb
        obtain ⟨i, hi, rfl⟩ := List.getElem_of_mem hb
        have := z i (List.mem_range.mpr hi)
        rw [List.getElem?_eq_getElem hi] at this
        exact this
      · intro z i hi
        have hi' := List.mem_range.mp hi
        rw [List.getElem?_eq_getElem hi']
        exact z _ (List.getElem_mem hi')
    have kk : ∀ b o, s.heap.get? b = some o → h'.get? b = some o := fun b o eb => hk b o (fun hm => by rw [List.mem_singleton.mp hm] at eb; exact Nat.lt_irrefl _ (Heap.lt_size eb)) (Heap.get?_push_of_some _ eb)
    rw [e]
    exact ⟨.bl _, H, I.kept (t' := tk) kk, rfl, q⟩
end
mutual
inductive Deep (K : PySem.W.Frag) (H : Hp) : V → PyData → Prop
  | non : Deep K H .non .none
  | bl (b : Bool) : Deep K H (.bl b) (.bool b)
  | int (i : Int) : Deep K H (.int i) (.int i)
  | lst {a : Addr} {xs : List V} {ds : List PyData} : SqL K H a xs → DeepAll K H xs ds → Deep K H (.ref a) (.list ds)
  | tup {a : Addr} {xs : List V} {ds : List PyData} : SqT K H a xs → DeepAll K H xs ds → Deep K H (.ref a) (.tuple ds)
inductive DeepAll (K : PySem.W.Frag) (H : Hp) : List V → List PyData → Prop
  | nil : DeepAll K H [] []
  | cons {x : V} {d : PyData} {xs : List V} {ds : List PyData} : Deep K H x d → DeepAll K H xs ds → DeepAll K H (x :: xs) (d :: ds)
end
mutual
theorem Deep.reads {X : Cx} {pins : List (Addr × Obj)} {σ : St} {H : Hp} {s : Shared} (I : Inv X pins σ H s) : ∀ {x : V} {d : PyData} {u : Value}, Deep X.K H x d → RelV x u → (∃ as, Reads s.heap u d as) ∧ d.canLay0 = true
  | _, _, _, .non, r => by cases (show _ = Value.none from r); exact ⟨⟨_, .none⟩, by simp [PyData.canLay0]⟩
  | _, _, _, .bl b, r => by cases (show _ = Value.bool b from r); exact ⟨⟨_, .bool b⟩, by simp [PyData.canLay0]⟩
  | _, _, _, .int i, r => by obtain ⟨t, e⟩ := (show ∃ t, _ = Value.int i t from r); cases e; exact ⟨⟨_, .int i t⟩, by simp [PyData.canLay0]⟩
  | _, _, _, .lst (a := a) h hs, r => by
    cases (show _ = Value.ref a from r)
    obtain ⟨its, rv, ⟨o, n, e, c, _, dd⟩, hz⟩ := I.list h
    obtain ⟨⟨as, ra⟩, cl⟩ := DeepAll.reads I hs rv
    exact ⟨⟨_, .list e c dd (by simpa using ra)⟩, by simpa [PyData.canLay0] using cl⟩
  | _, _, _, .tup (a := a) h hs, r => by
    cases (show _ = Value.ref a from r)
    obtain ⟨its, rv, ⟨o, e, c, n, dd⟩, hz⟩ := I.tuple h
    obtain ⟨⟨as, ra⟩, cl⟩ := DeepAll.reads I hs rv
    exact ⟨⟨_, .tuple e c dd (by simpa using ra)⟩, by simpa [PyData.canLay0] using cl⟩
theorem DeepAll.reads {X : Cx} {pins : List (Addr × Obj)} {σ : St} {H : Hp} {s : Shared} (I : Inv X pins σ H s) : ∀ {xs : List V} {ds : List PyData} {us : List Value}, DeepAll X.K H xs ds → Vals xs us → (∃ as, ReadsAll s.heap us ds as) ∧ PyData.canLayAll0 ds = true
  | _, _, _, .nil, .nil => ⟨⟨_, .nil⟩, by simp [PyData.canLayAll0]⟩
  | _, _, _, .cons h hs, .cons r rs => by
    obtain ⟨⟨as, ra⟩, c1⟩ := Deep.reads I h r
    obtain ⟨⟨bs, rb⟩, c2⟩ := DeepAll.reads I hs rs
    exact ⟨⟨_, .cons ra rb⟩, by simp [PyData.canLayAll0, c1, c2]⟩
end
section
variable {X : Cx}
def rNeD (K : PySem.W.Frag) : R2 := fun x y H Q => ∃ d e, Deep K H x d ∧ Deep K H y e ∧ d.depth ≤ 40 ∧ Q (.bl (!PyData.eqv d e)) H
theorem op_neD (hu : X.A.units + 64 < cLine) : OpR X (compareOp .NotEq) (rNeD X.K) := by
  intro pins s σ H x y v u Q I rx ry h
  obtain ⟨d, e, hd, he, hp, q⟩ := h
  obtain ⟨⟨as, ra⟩, ca⟩ := hd.reads I rx
  obtain ⟨⟨bs, rb⟩, cb⟩ := he.reads I ry
  exact PySem.SeqAt.compareNe_reads ra rb ca cb (by omega) ⟨.bl _, H, I, rfl, q⟩
end
end L2
set_option Elab.async false
set_option linter.all false
set_option maxRecDepth 100000
namespace L2
open PySem PySem.Spec PyProof.Rows
section
variable {P : Program} {w : World} {A : Around} {E : Value → Shared → Prop} {s : Shared}
end
end L2
set_option Elab.async false
set_option linter.all false
set_option maxRecDepth 100000
namespace L2
open PySem PySem.Spec PyProof.Rows
section
variable {P : Program} {w : World} {A : Around} {E : Value → Shared → Prop} {s : Shared} {l1 l2 : Addr} {ob1 ob2 : Obj} {src1 src2 : Heap → Array Value → Prop} {at1 at2 : Addr → Nat → Heap → Prop}
end
def SqX (K : PySem.W.Frag) : Bool → Hp → Addr → List V → Prop
  | true, H, a, xs => SqL K H a xs
  | false, H, a, xs => SqT K H a xs
def Itz (K : PySem.W.Frag) (c d : Bool) (a b : Addr) : It :=
  ⟨fun i H => ∃ xs ys x y, SqX K c H a xs ∧ SqX K d H b ys ∧ xs[i]? = some x ∧ ys[i]? = some y,
   fun i H v H' => ∃ p x y, H p = none ∧ v = .ref p ∧ H' = upd H p (.tup [x, y]) ∧ (∀ xs, SqX K c H a xs → xs[i]? = some x) ∧ ∀ ys, SqX K d H b ys → ys[i]? = some y,
   fun i H => ∃ xs ys, SqX K c H a xs ∧ SqX K d H b ys ∧ (xs.length ≤ i ∨ ys.length ≤ i)⟩
end L2
set_option Elab.async false
set_option linter.all false
set_option maxRecDepth 100000
namespace L2
open PySem PySem.Spec PyProof.Rows
section
variable {X : Cx} {pins : List (Addr × Obj)} {σ : St} {H H2 : Hp} {s s2 : Shared} {a : Addr} {o : HO}
end
section
variable {P : Program} {w : World} {A : Around} {E : Value → Shared → Prop} {s : Shared}
end
end L2
set_option Elab.async false
set_option linter.all false
set_option maxRecDepth 100000
namespace L2
open PySem PySem.Spec PyProof.Rows
section
variable {P : Program} {w : World} {A : Around} {E : Value → Shared → Prop} {s : Shared} {R : Result → Shared → Prop}
end
section
variable {X : Cx} {e : Expr} {te : TE} {p1 p2 pos pos2 : Pos}
end
end L2
set_option Elab.async false
set_option linter.all false
set_option maxRecDepth 100000
namespace L2
open PySem PySem.Spec PyProof.Rows
section
variable {X : Cx}
def iZip (K : PySem.W.Frag) (c d : Bool) (ta : TA) : TI := fun σ H R => ta σ H fun vs H1 => ∃ a b, vs = [.ref a, .ref b] ∧ (∃ xs, SqX K c H1 a xs) ∧ (∃ ys, SqX K d H1 b ys) ∧ R (Itz K c d a b) H1
end
end L2
set_option linter.all false
namespace Pb
structure Road where
  a : Int
  b : Int
  t : Int
  u : Int
  deriving DecidableEq
def Joined (m : Int) (rs : List Road) : Prop := ∀ S : Int → Prop, S 0 → (∀ r ∈ rs, (S r.a ↔ S r.b)) → ∀ v, 0 ≤ v → v < m → S v
structure RoadOk (m : Int) (r : Road) : Prop where
  a0 : 0 ≤ r.a
  a1 : r.a < m
  b0 : 0 ≤ r.b
  b1 : r.b < m
  ne : r.a ≠ r.b
  t0 : 2 ≤ r.t
  t1 : r.t ≤ 1000000
  u0 : 2 ≤ r.u
  u1 : r.u ≤ 1000000
structure Good (m : Int) (rs : List Road) : Prop where
  m1 : 1 ≤ m
  m24 : m ≤ 24
  len : (rs.length : Int) = m - 1
  ok : ∀ r ∈ rs, RoadOk m r
  jn : Joined m rs
theorem nodup_le {α : Type} [DecidableEq α] : ∀ {l l' : List α}, l.Nodup → (∀ x ∈ l, x ∈ l') → l.length ≤ l'.length
  | [], _, _, _ => Nat.zero_le _
  | x :: r, l', hn, hs => by
    obtain ⟨h1, h2⟩ := List.nodup_cons.mp hn
    have hx : x ∈ l' := hs x List.mem_cons_self
    have : r.length ≤ (l'.erase x).length := nodup_le h2 fun y hy => (List.mem_erase_of_ne (fun (e : y = x) => h1 (by rw [← e]; exact hy))).mpr (hs y (List.mem_cons_of_mem _ hy))
    rw [List.length_erase_of_mem hx] at this
    have hp : 0 < l'.length := List.length_pos_of_mem hx
    rw [List.length_cons]
    omega
def below (n : Nat) : List Int := (List.range n).map fun (k : Nat) => (k : Int)
theorem mem_below {n : Nat} {v : Int} : v ∈ below n ↔ 0 ≤ v ∧ v < n := by
  unfold below
  rw [List.mem_map]
  constructor
  · rintro ⟨k, hk, rfl⟩
    have := List.mem_range.mp hk
    omega
  · rintro ⟨h0, h1⟩
    exact ⟨v.toNat, List.mem_range.mpr (by omega), by omega⟩
theorem below_length (n : Nat) : (below n).length = n := by simp [below]
theorem nodup_below (n : Nat) : (below n).Nodup := by
  unfold below
  refine List.Pairwise.map _ (fun a b h => ?_) (List.nodup_range (n := n))
  intro e
  exact h (by omega)
theorem nodup_len {m : Int} {l : List Int} (hm : 0 ≤ m) (hn : l.Nodup) (h : ∀ x ∈ l, 0 ≤ x ∧ x < m) : (l.length : Int) ≤ m := by
  have := nodup_le (l' := below m.toNat) hn fun x hx => mem_below.mpr ⟨(h x hx).1, by have := (h x hx).2; omega⟩
  rw [below_length] at this
  omega
theorem full_len {m : Int} {l : List Int} (hm : 0 ≤ m) (h : ∀ v, 0 ≤ v → v < m → v ∈ l) : m ≤ (l.length : Int) := by
  have := nodup_le (l := below m.toNat) (l' := l) (nodup_below _) fun x hx => by
    obtain ⟨h0, h1⟩ := mem_below.mp hx
    exact h x h0 (by omega)
  rw [below_length] at this
  omega
def ends1 (p : Int) (r : Road) : List Int := (if r.a = p then [r.b] else []) ++ (if r.b = p then [r.a] else [])
def ends (rs : List Road) (p : Int) : List Int := rs.flatMap (ends1 p)
theorem mem_ends {rs : List Road} {p e : Int} : e ∈ ends rs p ↔ ∃ r ∈ rs, (r.a = p ∧ r.b = e) ∨ (r.b = p ∧ r.a = e) := by
  unfold ends ends1
  rw [List.mem_flatMap]
  constructor
  · rintro ⟨r, hr, h⟩
    refine ⟨r, hr, ?_⟩
    rcases List.mem_append.mp h with h | h
    · by_cases c : r.a = p
      · rw [if_pos c] at h
        exact .inl ⟨c, (List.mem_singleton.mp h).symm⟩
      · rw [if_neg c] at h; cases h
    · by_cases c : r.b = p
      · rw [if_pos c] at h
        exact .inr ⟨c, (List.mem_singleton.mp h).symm⟩
      · rw [if_neg c] at h; cases h
  · rintro ⟨r, hr, h⟩
    refine ⟨r, hr, List.mem_append.mpr ?_⟩
    rcases h with ⟨h1, h2⟩ | ⟨h1, h2⟩
    · exact .inl (by rw [if_pos h1, h2]; exact List.mem_singleton.mpr rfl)
    · exact .inr (by rw [if_pos h1, h2]; exact List.mem_singleton.mpr rfl)
theorem ends_len (rs : List Road) (p : Int) : (ends rs p).length ≤ 2 * rs.length := by
  unfold ends
  induction rs with
  | nil => simp
  | cons r rs ih =>
    rw [List.flatMap_cons, List.length_append, List.length_cons]
    have : (ends1 p r).length ≤ 2 := by
      unfold ends1
      rw [List.length_append]
      by_cases c : r.a = p <;> by_cases d : r.b = p <;> simp [c, d]
    omega
theorem ends_snoc (rs : List Road) (r : Road) (p : Int) : ends (rs ++ [r]) p = ends rs p ++ ends1 p r := by
  unfold ends
  rw [List.flatMap_append]
  simp
def jstep (c : List Int × List Int) (e : Int) : List Int × List Int := if e ∈ c.1 then c else (c.1 ++ [e], c.2 ++ [e])
structure JInv (m : Int) (rs : List Road) (ks ws : List Int) : Prop where
  nd : ks.Nodup
  zero : 0 ∈ ks
  rng : ∀ k ∈ ks, 0 ≤ k ∧ k < m
  sub : ∀ w ∈ ws, w ∈ ks
  cl : ∀ k ∈ ks, k ∉ ws → ∀ e ∈ ends rs k, e ∈ ks
  wl : ws.length ≤ ks.length
theorem nodup_snoc {l : List Int} {e : Int} (h : l.Nodup) (he : e ∉ l) : (l ++ [e]).Nodup := by
  rw [List.nodup_append]
  refine ⟨h, by simp, fun a ha b hb => ?_⟩
  rw [List.mem_singleton.mp hb]
  exact fun z => he (z ▸ ha)
structure JMid (m : Int) (rs : List Road) (p : Int) (es ks ws ks0 : List Int) (n0 : Nat) : Prop where
  nd : ks.Nodup
  zero : 0 ∈ ks
  rng : ∀ k ∈ ks, 0 ≤ k ∧ k < m
  sub : ∀ w ∈ ws, w ∈ ks
  cl : ∀ k ∈ ks, k ∉ ws → k = p ∨ ∀ e ∈ ends rs k, e ∈ ks
  seen : ∀ e ∈ es, e ∈ ks
  pin : p ∈ ks
  mu : ks.length + n0 = ks0.length + ws.length
  up : ks0.length ≤ ks.length
  wl : ws.length ≤ ks.length
theorem JMid.start {m : Int} {rs : List Road} {ks ws : List Int} {p : Int} (h : JInv m rs ks (ws ++ [p])) : JMid m rs p [] ks ws ks ws.length where
  nd := h.nd
  zero := h.zero
  rng := h.rng
  sub := fun w hw => h.sub w (List.mem_append_left _ hw)
  cl := fun k hk hw => by
    by_cases e : k = p
    · exact .inl e
    · exact .inr (h.cl k hk fun z => by
        rcases List.mem_append.mp z with z | z
        · exact hw z
        · exact e (List.mem_singleton.mp z))
  seen := fun e he => by cases he
  pin := h.sub p (List.mem_append_right _ (List.mem_singleton.mpr rfl))
  mu := rfl
  up := Nat.le_refl _
  wl := by have := h.wl; rw [List.length_append] at this; simp at this; omega
theorem JMid.step {m : Int} {rs : List Road} {p : Int} {es ks ws ks0 : List Int} {n0 : Nat} {e : Int} (h : JMid m rs p es ks ws ks0 n0) (h0 : 0 ≤ e) (h1 : e < m) :
    JMid m rs p (es ++ [e]) (jstep (ks, ws) e).1 (jstep (ks, ws) e).2 ks0 n0 := by
  unfold jstep
  by_cases c : e ∈ ks
  · rw [if_pos c]
    refine ⟨h.nd, h.zero, h.rng, h.sub, h.cl, fun x hx => ?_, h.pin, h.mu, h.up, h.wl⟩
    rcases List.mem_append.mp hx with z | z
    · exact h.seen x z
    · rw [List.mem_singleton.mp z]; exact c
  · rw [if_neg c]
    dsimp only
    refine ⟨nodup_snoc h.nd c, List.mem_append_left _ h.zero, fun k hk => ?_, fun w hw => ?_, fun k hk hw => ?_, fun x hx => ?_, List.mem_append_left _ h.pin, ?_, by have := h.up; simp; omega, by have := h.wl; simp; exact this⟩
    · rcases List.mem_append.mp hk with z | z
      · exact h.rng k z
      · rw [List.mem_singleton.mp z]; exact ⟨h0, h1⟩
    · rcases List.mem_append.mp hw with z | z
      · exact List.mem_append_left _ (h.sub w z)
      · exact List.mem_append_right _ z
    · rcases List.mem_append.mp hk with z | z
      · rcases h.cl k z fun y => hw (List.mem_append_left _ y) with y | y
        · exact .inl y
        · exact .inr fun x hx => List.mem_append_left _ (y x hx)
      · exact absurd (List.mem_append_right _ z) hw
    · rcases List.mem_append.mp hx with z | z
      · exact List.mem_append_left _ (h.seen x z)
      · exact List.mem_append_right _ z
    · have := h.mu
      simp only [List.length_append, List.length_cons, List.length_nil]
      omega
theorem JMid.done {m : Int} {rs : List Road} {p : Int} {ks ws ks0 : List Int} {n0 : Nat} (h : JMid m rs p (ends rs p) ks ws ks0 n0) : JInv m rs ks ws where
  nd := h.nd
  zero := h.zero
  rng := h.rng
  sub := h.sub
  cl := fun k hk hw => by
    rcases h.cl k hk hw with z | z
    · rw [z]; exact h.seen
    · exact z
  wl := h.wl
theorem JInv.start {m : Int} {rs : List Road} (hm : 1 ≤ m) : JInv m rs [0] [0] where
  nd := by simp
  zero := by simp
  rng := fun k hk => by rw [List.mem_singleton.mp hk]; omega
  sub := fun w hw => hw
  cl := fun k hk hw => absurd hk hw
  wl := by simp
theorem JInv.all {m : Int} {rs : List Road} {ks : List Int} (h : JInv m rs ks []) (hm : 1 ≤ m) (j : Joined m rs) : (ks.length : Int) = m := by
  have up := nodup_len (by omega) h.nd h.rng
  have : ∀ v, 0 ≤ v → v < m → v ∈ ks := j (fun v => v ∈ ks) h.zero fun r hr => by
    constructor
    · intro ha
      exact h.cl r.a ha (by simp) r.b (mem_ends.mpr ⟨r, hr, .inl ⟨rfl, rfl⟩⟩)
    · intro hb
      exact h.cl r.b hb (by simp) r.a (mem_ends.mpr ⟨r, hr, .inr ⟨rfl, rfl⟩⟩)
  have := full_len (by omega) this
  omega
theorem ends_rng {m : Int} {rs : List Road} (h : ∀ r ∈ rs, RoadOk m r) {p e : Int} (he : e ∈ ends rs p) : 0 ≤ e ∧ e < m := by
  obtain ⟨r, hr, z⟩ := mem_ends.mp he
  have k := h r hr
  rcases z with ⟨_, rfl⟩ | ⟨_, rfl⟩
  · exact ⟨k.b0, k.b1⟩
  · exact ⟨k.a0, k.a1⟩
structure Row where
  k : Int
  un : Int
  t : Int
  u : Int
  sw : Int
  sp : Int
structure RowOk (r : Row) : Prop where
  u0 : 0 ≤ r.un
  u1 : r.un < r.k
  t0 : 2 ≤ r.t
  t1 : r.t ≤ 1000000
  v0 : 2 ≤ r.u
  v1 : r.u ≤ 1000000
  s0 : 0 ≤ r.sp
  s1 : r.sp < r.k
structure Rows (n : Nat) (rows : List Row) : Prop where
  len : rows.length = n
  ok : ∀ (i : Nat) (r : Row), rows[i]? = some r → r.k = (i : Int) + 1 ∧ RowOk r
structure Labels (n : Nat) (ls : List Int) : Prop where
  len : ls.length = n
  nd : ls.Nodup
  all : ∀ v : Int, 0 ≤ v → v < n → v ∈ ls
  rng : ∀ v ∈ ls, 0 ≤ v ∧ v < n
theorem Labels.nil : Labels 0 [] := ⟨rfl, by simp, fun v h0 h1 => (by omega), fun v h => (by cases h)⟩
theorem mem_insert {α : Type} {l : List α} {k : Nat} {x y : α} : y ∈ l.take k ++ x :: l.drop k ↔ y = x ∨ y ∈ l := by
  rw [List.mem_append, List.mem_cons]
  constructor
  · rintro (h | h | h)
    · exact .inr (List.mem_of_mem_take h)
    · exact .inl h
    · exact .inr (List.mem_of_mem_drop h)
  · rintro (h | h)
    · exact .inr (.inl h)
    · rw [← List.take_append_drop k l] at h
      rcases List.mem_append.mp h with z | z
      · exact .inl z
      · exact .inr (.inr z)
theorem Labels.put {n : Nat} {ls : List Int} (h : Labels n ls) (k : Nat) (hk : k ≤ n) : Labels (n + 1) (ls.take k ++ (n : Int) :: ls.drop k) where
  len := by
    rw [List.length_append, List.length_cons, List.length_take, List.length_drop, h.len]
    omega
  nd := by
    have p : (ls.take k ++ (n : Int) :: ls.drop k).Perm ((n : Int) :: ls) := by
      refine List.perm_middle.trans ?_
      rw [List.take_append_drop]
    refine p.nodup_iff.mpr (List.nodup_cons.mpr ⟨fun z => ?_, h.nd⟩)
    have := (h.rng _ z).2
    omega
  all := fun v h0 h1 => by
    rw [mem_insert]
    by_cases e : v = n
    · exact .inl e
    · exact .inr (h.all v h0 (by omega))
  rng := fun v hv => by
    rcases mem_insert.mp hv with z | z
    · omega
    · have := h.rng v z
      omega
def roadOf (ls : List Int) (r : Row) : Road := if r.sw = 1 then ⟨ls.getD r.un.toNat 0, ls.getD r.k.toNat 0, r.t, r.u⟩ else ⟨ls.getD r.k.toNat 0, ls.getD r.un.toNat 0, r.t, r.u⟩
structure Put (ls : List Int) (rows : List Row) (rs : List Road) : Prop where
  len : rs.length = rows.length
  of : ∀ r ∈ rs, ∃ w ∈ rows, r = roadOf ls w
  to : ∀ w ∈ rows, roadOf ls w ∈ rs
theorem Put.nil (ls : List Int) : Put ls [] [] := ⟨rfl, fun r h => (by cases h), fun r h => (by cases h)⟩
theorem Put.step {ls : List Int} {rows : List Row} {rs : List Road} (h : Put ls rows rs) (w : Row) (k : Nat) : Put ls (rows ++ [w]) (rs.take k ++ roadOf ls w :: rs.drop k) where
  len := by
    rw [List.length_append, List.length_cons, List.length_take, List.length_drop, List.length_append, h.len]
    simp
    omega
  of := fun r hr => by
    rcases mem_insert.mp hr with z | z
    · exact ⟨w, by simp, z⟩
    · obtain ⟨w', hw, e⟩ := h.of r z
      exact ⟨w', List.mem_append_left _ hw, e⟩
  to := fun w' hw => by
    rw [mem_insert]
    rcases List.mem_append.mp hw with z | z
    · exact .inr (h.to w' z)
    · exact .inl (by rw [List.mem_singleton.mp z])
theorem getD_of {ls : List Int} {n : Nat} (h : Labels n ls) {i : Nat} (hi : i < n) : ls[i]? = some (ls.getD i 0) := by
  have : i < ls.length := by rw [h.len]; exact hi
  simp [List.getD, List.getElem?_eq_getElem this]
theorem getD_mem {ls : List Int} {n : Nat} (h : Labels n ls) {i : Nat} (hi : i < n) : ls.getD i 0 ∈ ls := List.mem_of_getElem? (getD_of h hi)
theorem getD_inj {ls : List Int} {n : Nat} (h : Labels n ls) {i j : Nat} (hi : i < n) (hj : j < n) (e : ls.getD i 0 = ls.getD j 0) : i = j := by
  have h1 : i < ls.length := by rw [h.len]; exact hi
  have h2 : j < ls.length := by rw [h.len]; exact hj
  have e1 := getD_of h hi
  have e2 := getD_of h hj
  rw [e] at e1
  have e3 : ls[i]'h1 = ls[j]'h2 := by
    rw [List.getElem?_eq_getElem h1] at e1
    rw [List.getElem?_eq_getElem h2] at e2
    exact Option.some.inj (e1.trans e2.symm)
  have nd := List.pairwise_iff_getElem.mp h.nd
  rcases Nat.lt_trichotomy i j with z | z | z
  · exact absurd e3 (nd i j h1 h2 z)
  · exact z
  · exact absurd e3.symm (nd j i h2 h1 z)
theorem good_of {n : Nat} {ls : List Int} {rows : List Row} {rs : List Road} (h1 : 1 ≤ n) (h24 : n ≤ 24) (L : Labels n ls) (W : Rows (n - 1) rows) (P : Put ls rows rs) : Good n rs where
  m1 := by omega
  m24 := by omega
  len := by rw [P.len, W.len]; omega
  ok := fun r hr => by
    obtain ⟨w, hw, rfl⟩ := P.of r hr
    obtain ⟨i, hi⟩ := List.getElem?_of_mem hw
    obtain ⟨ek, ok⟩ := W.ok i w hi
    have hil : i < rows.length := (List.getElem?_eq_some_iff.mp hi).1
    rw [W.len] at hil
    have hk : w.k.toNat < n := by omega
    have hu : w.un.toNat < n := by have := ok.u0; have := ok.u1; omega
    have r1 := L.rng _ (getD_mem L hk)
    have r2 := L.rng _ (getD_mem L hu)
    have ne : ls.getD w.k.toNat 0 ≠ ls.getD w.un.toNat 0 := fun e => by
      have := getD_inj L hk hu e
      have := ok.u0; have := ok.u1
      omega
    unfold roadOf
    by_cases c : w.sw = 1
    · rw [if_pos c]
      exact ⟨r2.1, r2.2, r1.1, r1.2, ne.symm, ok.t0, ok.t1, ok.v0, ok.v1⟩
    · rw [if_neg c]
      exact ⟨r1.1, r1.2, r2.1, r2.2, ne, ok.t0, ok.t1, ok.v0, ok.v1⟩
  jn := by
    intro S s0 hS
    -- the label of each place is reached just where that of the place 0 of the labels is
    have key : ∀ i : Nat, i < n → (S (ls.getD i 0) ↔ S (ls.getD 0 0)) := by
      intro i
      induction i using Nat.strongRecOn with
      | ind i ih =>
        intro hi
        by_cases z : i = 0
        · rw [z]
        · have hil : i - 1 < rows.length := by rw [W.len]; omega
          obtain ⟨ek, ok⟩ := W.ok (i - 1) rows[i - 1] (List.getElem?_eq_getElem hil)
          have hm := P.to rows[i - 1] (List.getElem_mem hil)
          have hr := hS _ hm
          have hk : (rows[i - 1]).k.toNat = i := by omega
          have hu : (rows[i - 1]).un.toNat < i := by have := ok.u0; have := ok.u1; omega
          have hh := ih _ hu (by omega)
          unfold roadOf at hr
          rw [hk] at hr
          by_cases c : (rows[i - 1]).sw = 1
          · rw [if_pos c] at hr
            exact hr.symm.trans hh
          · rw [if_neg c] at hr
            exact hr.trans hh
    have at_ : ∀ v, 0 ≤ v → v < (n : Int) → ∃ i, i < n ∧ ls.getD i 0 = v := fun v h0 h1 => by
      obtain ⟨i, hi⟩ := List.getElem?_of_mem (L.all v h0 h1)
      have hil : i < n := by have := (List.getElem?_eq_some_iff.mp hi).1; rw [L.len] at this; exact this
      refine ⟨i, hil, ?_⟩
      have := getD_of L hil
      rw [hi] at this
      exact (Option.some.inj this).symm
    intro v h0 hv
    obtain ⟨i, hi, rfl⟩ := at_ v h0 hv
    obtain ⟨j, hj, ej⟩ := at_ 0 (by omega) (by omega)
    refine (key i hi).mpr ((key j hj).mp ?_)
    rw [ej]
    exact s0
end Pb
set_option linter.all false
namespace Pb
def Adj (rs : List Road) (a b : Int) : Prop := ∃ x ∈ rs, (x.a = a ∧ x.b = b) ∨ (x.b = a ∧ x.a = b)
theorem Adj.symm {rs : List Road} {a b : Int} (h : Adj rs a b) : Adj rs b a := by
  obtain ⟨x, hx, h⟩ := h
  rcases h with ⟨h1, h2⟩ | ⟨h1, h2⟩
  · exact ⟨x, hx, .inr ⟨h2, h1⟩⟩
  · exact ⟨x, hx, .inl ⟨h2, h1⟩⟩
theorem adj_ends {rs : List Road} {a b : Int} : b ∈ ends rs a ↔ Adj rs a b := mem_ends
theorem Good.adj {m : Int} {rs : List Road} (g : Good m rs) {a b : Int} (h : Adj rs a b) : (0 ≤ a ∧ a < m) ∧ (0 ≤ b ∧ b < m) ∧ a ≠ b := by
  obtain ⟨x, hx, h⟩ := h
  have k := g.ok x hx
  rcases h with ⟨h1, h2⟩ | ⟨h1, h2⟩
  · subst h1 h2; exact ⟨⟨k.a0, k.a1⟩, ⟨k.b0, k.b1⟩, k.ne⟩
  · subst h1 h2; exact ⟨⟨k.b0, k.b1⟩, ⟨k.a0, k.a1⟩, k.ne.symm⟩
theorem Good.from {m : Int} {rs : List Road} (g : Good m rs) {r : Int} (h0 : 0 ≤ r) (h1 : r < m) (S : Int → Prop) (sr : S r) (hS : ∀ x ∈ rs, (S x.a ↔ S x.b)) : ∀ v, 0 ≤ v → v < m → S v := by
  have key : ∀ v, 0 ≤ v → v < m → (S v ↔ S 0) := g.jn (fun v => S v ↔ S 0) Iff.rfl fun x hx => by
    have := hS x hx
    exact ⟨fun h => this.symm.trans h, fun h => this.trans h⟩
  intro v a b
  exact (key v a b).mpr ((key r h0 h1).mp sr)
inductive Dist (rs : List Road) (r : Int) : Nat → Int → Prop
  | zero : Dist rs r 0 r
  | step {n : Nat} {u v : Int} : Dist rs r n u → Adj rs u v → Dist rs r (n + 1) v
theorem least {P : Nat → Prop} : ∀ n, P n → ∃ k, P k ∧ ∀ j, j < k → ¬ P j := by
  intro n
  induction n using Nat.strongRecOn with
  | ind n ih =>
    intro h
    by_cases z : ∃ j, j < n ∧ P j
    · obtain ⟨j, hj, hp⟩ := z
      exact ih j hj hp
    · exact ⟨n, h, fun j hj hp => z ⟨j, hj, hp⟩⟩
structure Rooted (m : Int) (rs : List Road) (r : Int) (par : Int → Int) (dep : Int → Nat) : Prop where
  root : dep r = 0
  up : ∀ v, 0 ≤ v → v < m → v ≠ r → (0 ≤ par v ∧ par v < m) ∧ Adj rs v (par v) ∧ dep (par v) + 1 = dep v
  road : ∀ x ∈ rs, (x.a ≠ r ∧ par x.a = x.b) ∨ (x.b ≠ r ∧ par x.b = x.a)
  one : (rs.map fun x => if x.a ≠ r ∧ par x.a = x.b then x.a else x.b).Nodup
theorem full_of {n : Nat} {l : List Nat} (hn : l.Nodup) (hl : l.length = n) (hb : ∀ x ∈ l, x < n) : ∀ i, i < n → i ∈ l := by
  intro i hi
  by_cases z : i ∈ l
  · exact z
  · have := nodup_le (l := i :: l) (l' := List.range n) (List.nodup_cons.mpr ⟨z, hn⟩) fun x hx => by
      rcases List.mem_cons.mp hx with rfl | hx
      · exact List.mem_range.mpr hi
      · exact List.mem_range.mpr (hb x hx)
    rw [List.length_cons, List.length_range] at this
    omega
theorem rooted {m : Int} {rs : List Road} (g : Good m rs) {r : Int} (h0 : 0 ≤ r) (h1 : r < m) : ∃ par dep, Rooted m rs r par dep := by
  classical
  have reach : ∀ v, 0 ≤ v → v < m → ∃ n, Dist rs r n v := g.from h0 h1 (fun v => ∃ n, Dist rs r n v) ⟨0, .zero⟩ fun x hx => by
    constructor
    · rintro ⟨n, d⟩; exact ⟨n + 1, d.step ⟨x, hx, .inl ⟨rfl, rfl⟩⟩⟩
    · rintro ⟨n, d⟩; exact ⟨n + 1, d.step ⟨x, hx, .inr ⟨rfl, rfl⟩⟩⟩
  have hd : ∀ v, ∃ k, (0 ≤ v ∧ v < m) → Dist rs r k v ∧ ∀ j, j < k → ¬ Dist rs r j v := fun v => by
    by_cases z : 0 ≤ v ∧ v < m
    · obtain ⟨n, d⟩ := reach v z.1 z.2
      obtain ⟨k, h⟩ := least (P := fun k => Dist rs r k v) n d
      exact ⟨k, fun _ => h⟩
    · exact ⟨0, fun h => absurd h z⟩
  let dep : Int → Nat := fun v => (hd v).choose
  have dspec : ∀ v, 0 ≤ v → v < m → Dist rs r (dep v) v ∧ ∀ j, j < dep v → ¬ Dist rs r j v := fun v a b => (hd v).choose_spec ⟨a, b⟩
  have dr : dep r = 0 := by
    have := (dspec r h0 h1).2 0
    by_cases z : dep r = 0
    · exact z
    · exact absurd Dist.zero (this (by omega))
  have hp : ∀ v, ∃ u, (0 ≤ v ∧ v < m ∧ v ≠ r) → Adj rs v u ∧ dep u + 1 = dep v := fun v => by
    by_cases z : 0 ≤ v ∧ v < m ∧ v ≠ r
    · obtain ⟨a, b, c⟩ := z
      obtain ⟨d, dm⟩ := dspec v a b
      generalize hk : dep v = k at d dm
      cases d with
      | zero => exact absurd rfl c
      | @step n u _ d e =>
        refine ⟨u, fun _ => ⟨e.symm, ?_⟩⟩
        obtain ⟨⟨u0, u1⟩, _⟩ := g.adj e
        have l1 : dep u ≤ n := by
          by_cases w : dep u ≤ n
          · exact w
          · exact absurd d ((dspec u u0 u1).2 n (by omega))
        have l2 : ¬ dep u < n := fun w => dm (dep u + 1) (by omega) ((dspec u u0 u1).1.step e)
        omega
    · exact ⟨0, fun h => absurd h z⟩
  let par : Int → Int := fun v => (hp v).choose
  have pspec : ∀ v, 0 ≤ v → v < m → v ≠ r → Adj rs v (par v) ∧ dep (par v) + 1 = dep v := fun v a b c => (hp v).choose_spec ⟨a, b, c⟩
  -- the road of a place: its index
  have hi : ∀ v, ∃ i : Nat, (0 ≤ v ∧ v < m ∧ v ≠ r) → ∃ x, rs[i]? = some x ∧ ((x.a = v ∧ x.b = par v) ∨ (x.b = v ∧ x.a = par v)) := fun v => by
    by_cases z : 0 ≤ v ∧ v < m ∧ v ≠ r
    · obtain ⟨x, hx, h⟩ := (pspec v z.1 z.2.1 z.2.2).1
      obtain ⟨i, e⟩ := List.getElem?_of_mem hx
      exact ⟨i, fun _ => ⟨x, e, h⟩⟩
    · exact ⟨0, fun h => absurd h z⟩
  let ix : Int → Nat := fun v => (hi v).choose
  have ispec : ∀ v, 0 ≤ v → v < m → v ≠ r → ∃ x, rs[ix v]? = some x ∧ ((x.a = v ∧ x.b = par v) ∨ (x.b = v ∧ x.a = par v)) := fun v a b c => (hi v).choose_spec ⟨a, b, c⟩
  have inj : ∀ v u, 0 ≤ v → v < m → v ≠ r → 0 ≤ u → u < m → u ≠ r → ix v = ix u → v = u := by
    intro v u a b c a' b' c' e
    obtain ⟨x, hx, h⟩ := ispec v a b c
    obtain ⟨y, hy, h'⟩ := ispec u a' b' c'
    rw [e, hy] at hx
    cases hx
    have d1 := (pspec v a b c).2
    have d2 := (pspec u a' b' c').2
    rcases h with ⟨p, q⟩ | ⟨p, q⟩ <;> rcases h' with ⟨p', q'⟩ | ⟨p', q'⟩
    · exact p.symm.trans p'
    · exfalso
      have e1 : v = par u := p.symm.trans q'
      have e2 : u = par v := p'.symm.trans q
      rw [← e1] at d2
      rw [← e2] at d1
      omega
    · exfalso
      have e1 : v = par u := p.symm.trans q'
      have e2 : u = par v := p'.symm.trans q
      rw [← e1] at d2
      rw [← e2] at d1
      omega
    · exact p.symm.trans p'
  let vs : List Int := (below m.toNat).filter fun v => decide (v ≠ r)
  have mv : ∀ v, v ∈ vs ↔ (0 ≤ v ∧ v < m ∧ v ≠ r) := fun v => by
    rw [List.mem_filter, mem_below, decide_eq_true_eq]
    constructor
    · rintro ⟨⟨a, b⟩, c⟩; exact ⟨a, by omega, c⟩
    · rintro ⟨a, b, c⟩; exact ⟨⟨a, by omega⟩, c⟩
  have nv : vs.Nodup := (nodup_below _).filter _
  have lv : vs.length = rs.length := by
    have e1 : (r :: vs).length ≤ (below m.toNat).length := nodup_le (List.nodup_cons.mpr ⟨fun h => ((mv r).mp h).2.2 rfl, nv⟩) fun x hx => by
      rcases List.mem_cons.mp hx with rfl | hx
      · exact mem_below.mpr ⟨h0, by omega⟩
      · have := (mv x).mp hx
        exact mem_below.mpr ⟨this.1, by omega⟩
    have e2 : (below m.toNat).length ≤ (r :: vs).length := nodup_le (nodup_below _) fun x hx => by
      have := mem_below.mp hx
      by_cases z : x = r
      · rw [z]; exact List.mem_cons_self
      · exact List.mem_cons_of_mem _ ((mv x).mpr ⟨this.1, by omega, z⟩)
    rw [below_length, List.length_cons] at e1 e2
    have := g.len
    have := g.m1
    omega
  have il : (vs.map ix).Nodup := by
    have : ∀ (l : List Int), l.Nodup → (∀ v ∈ l, 0 ≤ v ∧ v < m ∧ v ≠ r) → (l.map ix).Nodup := by
      intro l
      induction l with
      | nil => intro _ _; simp
      | cons v l ih =>
        intro hn hm
        obtain ⟨n1, n2⟩ := List.nodup_cons.mp hn
        rw [List.map_cons]
        refine List.nodup_cons.mpr ⟨fun z => ?_, ih n2 fun u hu => hm u (List.mem_cons_of_mem _ hu)⟩
        obtain ⟨u, hu, e⟩ := List.mem_map.mp z
        obtain ⟨a, b, c⟩ := hm v List.mem_cons_self
        obtain ⟨a', b', c'⟩ := hm u (List.mem_cons_of_mem _ hu)
        exact n1 (inj u v a' b' c' a b c e ▸ hu)
    exact this vs nv fun v hv => (mv v).mp hv
  have ib : ∀ i ∈ vs.map ix, i < rs.length := fun i hi' => by
    obtain ⟨v, hv, rfl⟩ := List.mem_map.mp hi'
    obtain ⟨a, b, c⟩ := (mv v).mp hv
    obtain ⟨x, hx, _⟩ := ispec v a b c
    exact (List.getElem?_eq_some_iff.mp hx).1
  have all := full_of il (by rw [List.length_map, lv]) ib
  have back : ∀ i x, rs[i]? = some x → ∃ v, (0 ≤ v ∧ v < m ∧ v ≠ r) ∧ ix v = i ∧ ((x.a = v ∧ x.b = par v) ∨ (x.b = v ∧ x.a = par v)) := fun i x e => by
    obtain ⟨v, hv, rfl⟩ := List.mem_map.mp (all i (List.getElem?_eq_some_iff.mp e).1)
    obtain ⟨a, b, c⟩ := (mv v).mp hv
    obtain ⟨y, hy, h⟩ := ispec v a b c
    rw [e] at hy
    cases hy
    exact ⟨v, ⟨a, b, c⟩, rfl, h⟩
  have noback : ∀ v, 0 ≤ v → v < m → v ≠ r → par v ≠ r → par (par v) ≠ v := fun v a b c c' z => by
    have d1 := pspec v a b c
    obtain ⟨_, ⟨a', b'⟩, _⟩ := g.adj d1.1
    have d2 := pspec (par v) a' b' c'
    rw [z] at d2
    omega
  have kid : ∀ i x, rs[i]? = some x → ∃ v, (0 ≤ v ∧ v < m ∧ v ≠ r) ∧ ix v = i ∧ (if x.a ≠ r ∧ par x.a = x.b then x.a else x.b) = v := fun i x e => by
    obtain ⟨v, ⟨a, b, c⟩, hv, h⟩ := back i x e
    refine ⟨v, ⟨a, b, c⟩, hv, ?_⟩
    rcases h with ⟨p, q⟩ | ⟨p, q⟩
    · rw [if_pos ⟨by rw [p]; exact c, by rw [p]; exact q.symm⟩]
      exact p
    · rw [if_neg]
      · exact p
      · rintro ⟨z1, z2⟩
        rw [q] at z1 z2
        exact noback v a b c z1 (z2.trans p)
  refine ⟨par, dep, dr, fun v a b c => ?_, fun x hx => ?_, ?_⟩
  · obtain ⟨p, q⟩ := pspec v a b c
    obtain ⟨_, w, _⟩ := g.adj p
    exact ⟨w, p, q⟩
  · obtain ⟨i, e⟩ := List.getElem?_of_mem hx
    obtain ⟨v, ⟨a, b, c⟩, _, h⟩ := back i x e
    rcases h with ⟨p, q⟩ | ⟨p, q⟩
    · exact .inl ⟨by rw [p]; exact c, by rw [p]; exact q.symm⟩
    · exact .inr ⟨by rw [p]; exact c, by rw [p]; exact q.symm⟩
  · refine List.pairwise_iff_getElem.mpr fun i j hi' hj' lt => ?_
    rw [List.length_map] at hi' hj'
    rw [List.getElem_map, List.getElem_map]
    intro z
    obtain ⟨v, _, e1, k1⟩ := kid i rs[i] (List.getElem?_eq_getElem hi')
    obtain ⟨u, _, e2, k2⟩ := kid j rs[j] (List.getElem?_eq_getElem hj')
    rw [k1, k2] at z
    rw [z] at e1
    omega
theorem ends_nodup {m : Int} {rs : List Road} (g : Good m rs) {p : Int} (h0 : 0 ≤ p) (h1 : p < m) : (ends rs p).Nodup := by
  obtain ⟨par, dep, R⟩ := rooted g h0 h1
  -- seen from p itself, each road at p is that of its other end
  have one := R.one
  have ok := g.ok
  have road := R.road
  clear R g
  induction rs with
  | nil => simp [ends]
  | cons x l ih =>
    have ox := ok x List.mem_cons_self
    have ol : ∀ y ∈ l, RoadOk m y := fun y hy => ok y (List.mem_cons_of_mem _ hy)
    rw [List.map_cons] at one
    obtain ⟨n1, n2⟩ := List.nodup_cons.mp one
    have il := ih n2 ol fun y hy => road y (List.mem_cons_of_mem _ hy)
    have e : ends (x :: l) p = ends1 p x ++ ends l p := by unfold ends; rw [List.flatMap_cons]
    rw [e]
    -- the kid of a road at p is its other end
    have kid : ∀ y, RoadOk m y → ((y.a ≠ p ∧ par y.a = y.b) ∨ (y.b ≠ p ∧ par y.b = y.a)) → (y.a = p → (if y.a ≠ p ∧ par y.a = y.b then y.a else y.b) = y.b) ∧ (y.b = p → (if y.a ≠ p ∧ par y.a = y.b then y.a else y.b) = y.a) := fun y oy hy => by
      constructor
      · intro z
        rw [if_neg (fun w => w.1 z)]
      · intro z
        rcases hy with hy | hy
        · rw [if_pos hy]
        · exact absurd z hy.1
    have kx := kid x ox (road x List.mem_cons_self)
    have inl : ∀ e ∈ ends l p, e ∈ l.map fun y => if y.a ≠ p ∧ par y.a = y.b then y.a else y.b := fun e he => by
      obtain ⟨y, hy, h⟩ := mem_ends.mp he
      have ky := kid y (ol y hy) (road y (List.mem_cons_of_mem _ hy))
      refine List.mem_map.mpr ⟨y, hy, ?_⟩
      rcases h with ⟨p1, q1⟩ | ⟨p1, q1⟩
      · rw [ky.1 p1]; exact q1
      · rw [ky.2 p1]; exact q1
    unfold ends1
    by_cases c : x.a = p
    · have d : ¬ x.b = p := fun z => ox.ne (c.trans z.symm)
      rw [if_pos c, if_neg d, List.append_nil]
      refine List.nodup_cons.mpr ⟨fun z => n1 ?_, il⟩
      rw [kx.1 c]
      exact inl _ z
    · rw [if_neg c, List.nil_append]
      by_cases d : x.b = p
      · rw [if_pos d]
        refine List.nodup_cons.mpr ⟨fun z => n1 ?_, il⟩
        rw [kx.2 d]
        exact inl _ z
      · rw [if_neg d]
        exact il
def nbrs (m : Int) (rs : List Road) (p : Int) : List Int := (below m.toNat).filter fun q => decide (q ∈ ends rs p)
theorem sorted_eq : ∀ {l l' : List Int}, l.Perm l' → l.Pairwise (· ≤ ·) → l'.Pairwise (· ≤ ·) → l = l'
  | [], l', p, _, _ => (List.Perm.nil_eq p)
  | a :: l, l', p, h, h' => by
    cases l' with
    | nil => exact absurd p.symm.nil_eq (by simp)
    | cons b r =>
      obtain ⟨h1, h2⟩ := List.pairwise_cons.mp h
      obtain ⟨h1', h2'⟩ := List.pairwise_cons.mp h'
      have e : a = b := by
        have ma : a ∈ b :: r := p.subset List.mem_cons_self
        have mb : b ∈ a :: l := p.symm.subset List.mem_cons_self
        rcases List.mem_cons.mp ma with z | z
        · exact z
        · rcases List.mem_cons.mp mb with w | w
          · exact w.symm
          · have := h1 b w
            have := h1' a z
            omega
      subst e
      rw [sorted_eq (List.Perm.cons_inv p) h2 h2']
theorem below_sorted (n : Nat) : (below n).Pairwise (· ≤ ·) := by
  unfold below
  refine List.Pairwise.map _ (fun a b (h : a < b) => ?_) List.pairwise_lt_range
  omega
theorem nbrs_sorted (m : Int) (rs : List Road) (p : Int) : (nbrs m rs p).Pairwise (· ≤ ·) := (below_sorted _).filter _
theorem nbrs_nodup (m : Int) (rs : List Road) (p : Int) : (nbrs m rs p).Nodup := (nodup_below _).filter _
theorem mem_nbrs {m : Int} {rs : List Road} (g : Good m rs) {p q : Int} : q ∈ nbrs m rs p ↔ Adj rs p q := by
  unfold nbrs
  rw [List.mem_filter, decide_eq_true_eq, adj_ends, mem_below]
  constructor
  · exact fun h => h.2
  · intro h
    obtain ⟨_, ⟨a, b⟩, _⟩ := g.adj h
    exact ⟨⟨a, by omega⟩, h⟩
theorem perm_of_nodup : ∀ {l l' : List Int}, l.Nodup → l'.Nodup → (∀ x, x ∈ l ↔ x ∈ l') → l.Perm l'
  | [], l', _, _, h => by
    cases l' with
    | nil => exact .nil
    | cons b r => exact absurd ((h b).mpr List.mem_cons_self) (by simp)
  | a :: l, l', n, n', h => by
    obtain ⟨n1, n2⟩ := List.nodup_cons.mp n
    have ma : a ∈ l' := (h a).mp List.mem_cons_self
    refine List.Perm.trans (List.Perm.cons a ?_) (List.perm_cons_erase ma).symm
    refine perm_of_nodup n2 (n'.erase a) fun x => ?_
    constructor
    · intro hx
      have ne : x ≠ a := fun z => n1 (z ▸ hx)
      exact (List.mem_erase_of_ne ne).mpr ((h x).mp (List.mem_cons_of_mem _ hx))
    · intro hx
      have : x ≠ a := fun z => by
        subst z
        exact (List.Nodup.not_mem_erase n') hx
      rcases List.mem_cons.mp ((h x).mpr (List.mem_of_mem_erase hx)) with z | z
      · exact absurd z this
      · exact z
theorem nbrs_eq {m : Int} {rs : List Road} (g : Good m rs) {p : Int} (h0 : 0 ≤ p) (h1 : p < m) {zs : List Int} (hp : zs.Perm (ends rs p)) (hs : zs.Pairwise (· ≤ ·)) : zs = nbrs m rs p := by
  refine sorted_eq (hp.trans (perm_of_nodup (ends_nodup g h0 h1) (nbrs_nodup m rs p) fun x => ?_)) hs (nbrs_sorted m rs p)
  rw [mem_nbrs g, adj_ends]
def toll1 (a b : Int) (x : Road) : Option Int := if x.a = a ∧ x.b = b then some x.t else if x.a = b ∧ x.b = a then some x.u else none
def tollOf (rs : List Road) (a b : Int) : Option Int := rs.findSome? (toll1 a b)
theorem toll_adj {rs : List Road} {a b : Int} : (tollOf rs a b).isSome = true ↔ Adj rs a b := by
  unfold tollOf
  rw [List.findSome?_isSome_iff]
  constructor
  · rintro ⟨x, hx, h⟩
    unfold toll1 at h
    by_cases c : x.a = a ∧ x.b = b
    · exact ⟨x, hx, .inl c⟩
    · rw [if_neg c] at h
      by_cases d : x.a = b ∧ x.b = a
      · exact ⟨x, hx, .inr ⟨d.2, d.1⟩⟩
      · rw [if_neg d] at h; cases h
  · rintro ⟨x, hx, h⟩
    refine ⟨x, hx, ?_⟩
    unfold toll1
    rcases h with h | h
    · rw [if_pos h]; rfl
    · by_cases c : x.a = a ∧ x.b = b
      · rw [if_pos c]; rfl
      · rw [if_neg c, if_pos ⟨h.2, h.1⟩]; rfl
def Joins (x : Road) (a b : Int) : Prop := (x.a = a ∧ x.b = b) ∨ (x.b = a ∧ x.a = b)
theorem pair_once {m : Int} {rs : List Road} (g : Good m rs) {a b : Int} {i j : Nat} {x y : Road} (hi : rs[i]? = some x) (hj : rs[j]? = some y) (jx : Joins x a b) (jy : Joins y a b) : i = j := by
  obtain ⟨⟨a0, a1⟩, _, _⟩ := g.adj (show Adj rs a b from ⟨x, List.mem_of_getElem? hi, jx⟩)
  obtain ⟨par, dep, R⟩ := rooted g a0 a1
  have kid : ∀ z ∈ rs, Joins z a b → (if z.a ≠ a ∧ par z.a = z.b then z.a else z.b) = b := fun z hz jz => by
    rcases jz with ⟨p, q⟩ | ⟨p, q⟩
    · rw [if_neg (fun w => w.1 p)]
      exact q
    · rcases R.road z hz with w | w
      · rw [if_pos w]
        exact q
      · exact absurd p w.1
  have li := (List.getElem?_eq_some_iff.mp hi)
  have lj := (List.getElem?_eq_some_iff.mp hj)
  obtain ⟨li, ei⟩ := li
  obtain ⟨lj, ej⟩ := lj
  have nd := List.pairwise_iff_getElem.mp R.one
  have vi : (rs.map fun z => if z.a ≠ a ∧ par z.a = z.b then z.a else z.b)[i]'(by rw [List.length_map]; exact li) = b := by
    rw [List.getElem_map]
    exact kid _ (List.getElem_mem li) (ei ▸ jx)
  have vj : (rs.map fun z => if z.a ≠ a ∧ par z.a = z.b then z.a else z.b)[j]'(by rw [List.length_map]; exact lj) = b := by
    rw [List.getElem_map]
    exact kid _ (List.getElem_mem lj) (ej ▸ jy)
  rcases Nat.lt_trichotomy i j with z | z | z
  · exact absurd (vi.trans vj.symm) (nd i j _ _ z)
  · exact z
  · exact absurd (vj.trans vi.symm) (nd j i _ _ z)
theorem toll1_none {a b : Int} {x : Road} (h : ¬ Joins x a b) : toll1 a b x = none := by
  unfold toll1
  rw [if_neg (fun z => h (.inl z)), if_neg (fun z => h (.inr ⟨z.2, z.1⟩))]
theorem tollOf_at {m : Int} {rs : List Road} (g : Good m rs) {a b : Int} {i : Nat} {x : Road} (hi : rs[i]? = some x) (j : Joins x a b) : tollOf rs a b = toll1 a b x := by
  have lt := (List.getElem?_eq_some_iff.mp hi)
  obtain ⟨lt, ex⟩ := lt
  have e : rs = rs.take i ++ x :: rs.drop (i + 1) := by rw [← ex, List.getElem_cons_drop, List.take_append_drop]
  have pre : tollOf (rs.take i) a b = none := by
    unfold tollOf
    rw [List.findSome?_eq_none_iff]
    intro y hy
    refine toll1_none fun jy => ?_
    obtain ⟨k, hk⟩ := List.getElem?_of_mem hy
    have lk := (List.getElem?_eq_some_iff.mp hk).1
    rw [List.length_take] at lk
    rw [List.getElem?_take_of_lt (by omega)] at hk
    have := pair_once g hk hi jy j
    omega
  have hx : (toll1 a b x).isSome = true := by
    unfold toll1
    rcases j with z | z
    · rw [if_pos z]; rfl
    · by_cases c : x.a = a ∧ x.b = b
      · rw [if_pos c]; rfl
      · rw [if_neg c, if_pos ⟨z.2, z.1⟩]; rfl
  obtain ⟨v, hv⟩ := Option.isSome_iff_exists.mp hx
  have : tollOf (rs.take i ++ x :: rs.drop (i + 1)) a b = toll1 a b x := by
    unfold tollOf at pre ⊢
    rw [List.findSome?_append, pre, List.findSome?_cons, hv]
    rfl
  rw [← e] at this
  exact this
theorem tollOf_no {rs : List Road} {a b : Int} (h : ¬ Adj rs a b) : tollOf rs a b = none := by
  cases q : tollOf rs a b with
  | none => rfl
  | some v => exact absurd (toll_adj.mp (by rw [q]; rfl)) h
theorem toll_fwd {x : Road} (h : x.a ≠ x.b) : toll1 x.a x.b x = some x.t := by unfold toll1; rw [if_pos ⟨rfl, rfl⟩]
theorem toll_bwd {x : Road} (h : x.a ≠ x.b) : toll1 x.b x.a x = some x.u := by unfold toll1; rw [if_neg (fun z => h z.1), if_pos ⟨rfl, rfl⟩]
theorem nbrs_toll {m : Int} {rs : List Road} (p : Int) : nbrs m rs p = (below m.toNat).filter fun q => (tollOf rs p q).isSome := by
  unfold nbrs
  congr 1
  funext q
  rw [Bool.eq_iff_iff, decide_eq_true_eq, toll_adj, adj_ends]
section
variable {m : Int} {row : List Int} {rs rs' : List Road}
end
end Pb
set_option Elab.async false
set_option linter.all false
set_option maxRecDepth 100000
namespace L2
open PySem PySem.Spec PyProof.Rows
def Quiet (CX : CXT) : Prop := ∀ outer H s e s', ¬ CX outer H s E0 e s'
theorem passQ {CX : CXT} (q : Quiet CX) {X : Cx} : Passes CX X E0 := fun _ _ _ _ _ _ _ h => (q _ _ _ _ _ h).elim
structure Df (K : PySem.W.Frag) (mg : Str → Option Value) (x : Str) (st : Stmt) (ps : List Str) (f : Addr) (fd : FuncData) : Prop where
  F : Fun K x x st f fd
  m : mg x = some (.ref f)
  b : Binds K fd ps []
section
variable {P : Program} {w : World} {K : PySem.W.Frag} {mg : Str → Option Value} {base : Heap} {CX : CXT}
theorem Fun.okC {x qual : Str} {st : Stmt} {f : Addr} {fd : FuncData} {N ps : List Str} {k : Nat} {sp : Sp} (F : Fun K x qual st f fd) (S : FnScope N ps (defScope st)) (len : ∀ vs H Q E, sp vs H Q E → vs.length = ps.length)
    (hbody : ∀ (cdv : Value) (A : Around) (outer : List Env) (s : Shared) (H : Hp) (vs : List V) (Q : VK) (E : XK), Room k (A.deeper (envOfC qual (defScope st) s.heap.objs.size f cdv)) → sp vs H Q E →
      ∃ t, PSs (cxOf CX P w K mg base N qual (defScope st) f cdv A outer s H E).nox (defBody st) t ∧ t { nx := fun _ H' => Q .non H', rt := Q } (start N vs) H) : FnOk P w K mg base CX (k + 1) f fd ps sp := by
  obtain ⟨oc, od, kV, doc, pm, an, cdv, ct, osl, rfl, lk, hcd⟩ := F.ex
  refine fn_of lk hcd S len fun A outer s H vs Q E hr hsp => ?_
  obtain ⟨t, h, q⟩ := hbody cdv A outer s H vs Q E hr hsp
  exact ⟨t, h.nox, q⟩
end
structure NmL (sc : Scope) (x : Str) : Prop where
  l : sc.names.lookup x = some .local
  d : (x == ("__debug__" : Str)) = false
  c : (x == ("__classdict__" : Str)) = false
structure NmC (sc : Scope) (x : Str) : Prop where
  l : sc.names.lookup x = some .cell
  d : (x == ("__debug__" : Str)) = false
  c : (x == ("__classdict__" : Str)) = false
structure NmG (sc : Scope) (x : Str) : Prop where
  g : sc.names.lookup x = some .globalImplicit
  d : (x == ("__debug__" : Str)) = false
  n : x ≠ "__name__"
theorem us1 {us : List Value} (h : us.length = 1) : ∃ a0, us = [a0] := List.length_eq_one_iff.mp h
theorem us2 {us : List Value} (h : us.length = 2) : ∃ a0 a1, us = [a0, a1] := by
  cases us with
  | nil => cases h
  | cons a0 t =>
    obtain ⟨a1, e⟩ := us1 (Nat.succ.inj h)
    subst e
    exact ⟨a0, a1, rfl⟩
theorem us3 {us : List Value} (h : us.length = 3) : ∃ a0 a1 a2, us = [a0, a1, a2] := by
  cases us with
  | nil => cases h
  | cons a0 t =>
    obtain ⟨a1, a2, e⟩ := us2 (Nat.succ.inj h)
    subst e
    exact ⟨a0, a1, a2, rfl⟩
theorem us4 {us : List Value} (h : us.length = 4) : ∃ a0 a1 a2 a3, us = [a0, a1, a2, a3] := by
  cases us with
  | nil => cases h
  | cons a0 t =>
    obtain ⟨a1, a2, a3, e⟩ := us3 (Nat.succ.inj h)
    subst e
    exact ⟨a0, a1, a2, a3, rfl⟩
def nmL (sc : Scope) (x : Str) : Bool := decide (sc.names.lookup x = some .local) && !(x == ("__debug__" : Str)) && !(x == ("__classdict__" : Str))
def nmC (sc : Scope) (x : Str) : Bool := decide (sc.names.lookup x = some .cell) && !(x == ("__debug__" : Str)) && !(x == ("__classdict__" : Str))
def nmG (sc : Scope) (x : Str) : Bool := decide (sc.names.lookup x = some .globalImplicit) && !(x == ("__debug__" : Str)) && !decide (x = "__name__")
theorem NmL.of {sc : Scope} {x : Str} (h : nmL sc x = true) : NmL sc x := by
  unfold nmL at h
  simp only [Bool.and_eq_true, decide_eq_true_eq, Bool.not_eq_true'] at h
  exact ⟨h.1.1, h.1.2, h.2⟩
theorem NmC.of {sc : Scope} {x : Str} (h : nmC sc x = true) : NmC sc x := by
  unfold nmC at h
  simp only [Bool.and_eq_true, decide_eq_true_eq, Bool.not_eq_true'] at h
  exact ⟨h.1.1, h.1.2, h.2⟩
theorem NmG.of {sc : Scope} {x : Str} (h : nmG sc x = true) : NmG sc x := by
  unfold nmG at h
  simp only [Bool.and_eq_true, decide_eq_true_eq, Bool.not_eq_true', decide_eq_false_iff_not] at h
  exact ⟨h.1.1, h.1.2, h.2⟩
def scOk (N ps : List Str) (sc : Scope) : Bool := decide (sc.kind = .function) && !sc.isCoroutine && !sc.isGenerator && decide N.Nodup && decide (N.take ps.length = ps) && (ps.all fun x => decide (sc.names.lookup x = some .local ∨ sc.names.lookup x = some .cell)) && (sc.names.all fun y => decide (y.2 ≠ .free))
theorem FnScope.of {N ps : List Str} {sc : Scope} (h : scOk N ps sc = true) : FnScope N ps sc := by
  unfold scOk at h
  simp only [Bool.and_eq_true, decide_eq_true_eq, Bool.not_eq_true', List.all_eq_true] at h
  obtain ⟨⟨⟨⟨⟨⟨h1, h2⟩, h3⟩, h4⟩, h5⟩, h6⟩, h7⟩ := h
  exact ⟨h1, h2, h3, h4, h5, h6, h7⟩
theorem pvl {X : Cx} (i : Nat) {x : Str} {pos : Pos} (n : NmL X.env.scope x) (hN : X.N[i]? = some x := by rfl) : PE X (.Name x pos) (tVar i) := pe_var hN (.inl n.l) n.d n.c
theorem pvc {X : Cx} (i : Nat) {x : Str} {pos : Pos} (n : NmC X.env.scope x) (hN : X.N[i]? = some x := by rfl) : PE X (.Name x pos) (tVar i) := pe_var hN (.inr (.inl n.l)) n.d n.c
theorem cxOf_K {CX : CXT} {P : Program} {w : World} {K : PySem.W.Frag} {mg : Str → Option Value} {base : Heap} {N : List Str} {qual : Str} {scope : Scope} {f : Addr} {cd : Value} {A : Around} {outer : List Env} {s : Shared} {H : Hp} {E : XK} :
    (cxOf CX P w K mg base N qual scope f cd A outer s H E).K = K := rfl
theorem tNever_eq (D : Ends) (σ : St) (H : Hp) : tNever D σ H = False := rfl
theorem scal_ii (i j : Int) : scal (.int i) (.int j) = true := rfl
theorem scal_bb (i j : Bool) : scal (.bl i) (.bl j) = true := rfl
theorem scal_in (i : Int) : scal (.int i) .non = true := rfl
theorem scal_ni (i : Int) : scal .non (.int i) = true := rfl
theorem scal_nn : scal .non .non = true := rfl
theorem scal_ss (i j : Str) : scal (.str i) (.str j) = true := rfl
theorem ixT {K : PySem.W.Frag} {H : Hp} {p : Addr} {xs : List V} {i : Int} {v : V} {Q : VK} (h : H p = some (.tup xs)) (e : atI xs i = some v) (q : Q v H) : rIxT K (.ref p) (.int i) H Q := ⟨p, xs, i, v, rfl, rfl, SqT.of h, e, q⟩
theorem ixL {K : PySem.W.Frag} {H : Hp} {p : Addr} {xs : List V} {i : Int} {v : V} {Q : VK} (h : H p = some (.lst xs)) (e : atI xs i = some v) (q : Q v H) : rIxL K (.ref p) (.int i) H Q := ⟨p, xs, i, v, rfl, rfl, SqL.of h, e, q⟩
theorem ixS {K : PySem.W.Frag} {H : Hp} {p : Addr} {xs : List V} {i : Int} {v : V} {Q : VK} (h : SqL K H p xs) (e : atI xs i = some v) (q : Q v H) : rIxL K (.ref p) (.int i) H Q := ⟨p, xs, i, v, rfl, rfl, h, e, q⟩
theorem tyL {K : PySem.W.Frag} {H : Hp} {l : Addr} {xs : List V} (h : H l = some (.lst xs)) : tyV K "list" (.ref l) H := .inl ⟨rfl, _, SqL.of h⟩
theorem appR {H : Hp} {l : Addr} {xs : List V} {y : V} {Q : VK} (h : H l = some (.lst xs)) (hz : xs.length < sizeLine) (q : Q .non (upd H l (.lst (xs ++ [y])))) : rAppend (.ref l) [y] H Q := ⟨l, xs, y, rfl, rfl, h, hz, q⟩
theorem insR {H : Hp} {l : Addr} {xs : List V} {i : Int} {y : V} {Q : VK} (h : H l = some (.lst xs)) (h0 : 0 ≤ i) (h1 : i ≤ xs.length) (hz : xs.length < sizeLine) (q : Q .non (upd H l (.lst (xs.take i.toNat ++ y :: xs.drop i.toNat)))) : rInsert (.ref l) [.int i, y] H Q :=
  ⟨l, xs, i, y, rfl, rfl, h, h0, h1, hz, q⟩
theorem popR {H : Hp} {l : Addr} {xs : List V} {y : V} {Q : VK} (h : H l = some (.lst (xs ++ [y]))) (q : Q y (upd H l (.lst xs))) : rPop (.ref l) [] H Q :=
  ⟨l, xs ++ [y], y, rfl, rfl, h, by simp, by rw [List.dropLast_concat]; exact q⟩
theorem small {n : Nat} (h : n ≤ 100000) : n < sizeLine := Nat.lt_of_le_of_lt h (by decide)
theorem smallE {n : Nat} (h : n ≤ 100000) : n ≤ sizeLine := Nat.le_of_lt (small h)
theorem atI_int {α : Type} {xs : List α} {i : Int} {v : α} (h0 : 0 ≤ i) (h : xs[i.toNat]? = some v) : atI xs i = some v := by
  obtain ⟨n, rfl⟩ : ∃ n : Nat, i = n := ⟨i.toNat, by omega⟩
  exact atI_nat (by simpa using h)
theorem pe_globI {X : Cx} {x : Str} {i : Int} {pos : Pos} (hg : Gl X x) (hm : ∃ t, X.mg x = some (.int i t)) (hd : (x == ("__debug__" : Str)) = false := by decide) : PE X (.Name x pos) (tC (.int i)) := by
  obtain ⟨t, e⟩ := hm
  exact pe_glob hg e ⟨t, rfl⟩ hd
def Itx (K : PySem.W.Frag) : Bool → Addr → It
  | true, a => Itl K a
  | false, a => Itt K a
def iAny (K : PySem.W.Frag) (c : Bool) (tl : TE) : TI := fun σ H R => tl σ H fun x H1 => ∃ a, x = .ref a ∧ (∃ xs, SqX K c H1 a xs) ∧ R (Itx K c a) H1
theorem pi_any {X : Cx} {tg l : Expr} {tl : TE} (c : Bool) (hl : PE X l tl) : PI X tg l (iAny X.K c tl) := by
  cases c
  · exact pi_tup hl
  · exact pi_list hl
theorem for_any {K : PySem.W.Frag} {c : Bool} {a : Addr} {xs : List V} {g : TG} {tb : TS} {D : Ends} {σ : St} {H : Hp} (Pv : Nat → St → Hp → Prop) (h0 : Pv 0 σ H) (hl : ∀ i σ H, i ≤ xs.length → Pv i σ H → SqX K c H a xs)
    (hs : ∀ i x σ H, xs[i]? = some x → Pv i σ H → g x σ H fun σ2 H2 => tb { D with nx := Pv (i + 1), ct := Pv (i + 1), bk := D.nx } σ2 H2) (hd : ∀ σ H, Pv xs.length σ H → D.nx σ H) :
    ∃ W : Nat → Nat → St → Hp → Prop, (∃ m, W 0 m σ H) ∧ ∀ i m σ H, W i m σ H →
      ((Itx K c a).stop i H ∧ D.nx σ H) ∨ ((Itx K c a).go i H ∧ ∃ N : St → Hp → Prop, (∀ σ' H', N σ' H' → ∃ m', m' < m ∧ W (i + 1) m' σ' H') ∧ ∀ x H', (Itx K c a).yld i H x H' → g x σ H' fun σ2 H2 => tb { D with nx := N, ct := N, bk := D.nx } σ2 H2) := by
  cases c
  · exact for_tup Pv h0 hl hs hd
  · exact for_list Pv h0 hl hs hd
def CompGo (J : It) (p : Addr) (Q : VK) (g : TG) (tc : TT) (te : TE) (σ0 : St) (H0 : Hp) : Prop :=
  ∃ W : Nat → Nat → List V → St → Hp → Prop, (∃ m, W 0 m [] σ0 H0) ∧ ∀ i m ys σc Hc, W i m ys σc Hc →
    (J.stop i Hc ∧ Q (.ref p) Hc) ∨ (J.go i Hc ∧ ∀ x H', J.yld i Hc x H' → g x σc H' fun σ2 H2 => tc σ2 H2 fun b H3 =>
      if b = true then te σ2 H3 fun y H4 => H4 p = some (.lst ys) ∧ ys.length < sizeLine ∧ ∃ m', m' < m ∧ W (i + 1) m' (ys ++ [y]) σ2 (upd H4 p (.lst (ys ++ [y])))
      else ∃ m', m' < m ∧ W (i + 1) m' ys σ2 H3)
theorem tComp_eq' {own : Nat} {js : List Nat} {wi : TI} {g : TG} {tc : TT} {te : TE} {σ : St} {H : Hp} {Q : VK} : tComp own js wi g tc te σ H Q = wi σ H fun J H1 => ∀ p, H1 p = none → CompGo J p Q g tc te (compStart0 own js σ) (upd H1 p (.lst [])) := rfl
def ForGo (J : It) (D : Ends) (g : TG) (tb : TS) (σ : St) (H : Hp) : Prop := ∃ W : Nat → Nat → St → Hp → Prop, (∃ m, W 0 m σ H) ∧ ∀ i m σ H, W i m σ H →
  (J.stop i H ∧ D.nx σ H) ∨ (J.go i H ∧ ∃ N : St → Hp → Prop, (∀ σ' H', N σ' H' → ∃ m', m' < m ∧ W (i + 1) m' σ' H') ∧ ∀ x H', J.yld i H x H' → g x σ H' fun σ2 H2 => tb { D with nx := N, ct := N, bk := D.nx } σ2 H2)
theorem tFor_eq {wi : TI} {g : TG} {tb : TS} {D : Ends} {σ : St} {H : Hp} : tFor wi g tb D σ H = wi σ H fun J H1 => ForGo J D g tb σ H1 := rfl
theorem comp_any {K : PySem.W.Frag} {c : Bool} {a p : Addr} {xs : List V} {Q : VK} {g : TG} {tc : TT} {te : TE} {σ0 : St} {H0 : Hp} (Pv : Nat → List V → St → Hp → Prop) (h0 : Pv 0 [] σ0 H0) (hl : ∀ i ys σ H, i ≤ xs.length → Pv i ys σ H → SqX K c H a xs)
    (hs : ∀ (i : Nat) (x : V) (ys : List V) (σ : St) (H : Hp) (N : List V → St → Hp → Prop), (∀ ys' σ' H', Pv (i + 1) ys' σ' H' → N ys' σ' H') → xs[i]? = some x → Pv i ys σ H → g x σ H fun σ2 H2 => tc σ2 H2 fun b H3 =>
      if b = true then te σ2 H3 fun y H4 => H4 p = some (.lst ys) ∧ ys.length < sizeLine ∧ N (ys ++ [y]) σ2 (upd H4 p (.lst (ys ++ [y]))) else N ys σ2 H3)
    (hd : ∀ ys σ H, Pv xs.length ys σ H → Q (.ref p) H) : CompGo (Itx K c a) p Q g tc te σ0 H0 := by
  refine ⟨fun i m ys σ H => m = xs.length - i ∧ i ≤ xs.length ∧ Pv i ys σ H, ⟨xs.length, by simp, Nat.zero_le _, h0⟩, ?_⟩
  rintro i m ys σ H ⟨rfl, hi, pv⟩
  have q := hl i ys σ H hi pv
  by_cases hlt : i < xs.length
  · refine .inr ⟨?_, fun x H' y => ?_⟩
    · cases c
      · exact ⟨xs, xs[i], q, by simp [hlt]⟩
      · exact ⟨xs, xs[i], q, by simp [hlt]⟩
    · have e : H' = H ∧ xs[i]? = some x := by
        cases c
        · exact ⟨y.1, y.2 xs q⟩
        · exact ⟨y.1, y.2 xs q⟩
      obtain ⟨rfl, hx⟩ := e
      exact hs i x ys σ _ (fun ys' σ' H' => ∃ m', m' < xs.length - i ∧ (m' = xs.length - (i + 1) ∧ i + 1 ≤ xs.length ∧ Pv (i + 1) ys' σ' H')) (fun ys' σ' H' pv' => ⟨xs.length - (i + 1), by omega, rfl, hlt, pv'⟩) hx pv
  · have e : i = xs.length := by omega
    subst e
    refine .inl ⟨?_, hd ys σ H pv⟩
    cases c
    · exact ⟨xs, q, Nat.le_refl _⟩
    · exact ⟨xs, q, Nat.le_refl _⟩
theorem comp_range {lo : Int} {n : Nat} {p : Addr} {Q : VK} {g : TG} {tc : TT} {te : TE} {σ0 : St} {H0 : Hp} (Pv : Nat → List V → St → Hp → Prop) (h0 : Pv 0 [] σ0 H0)
    (hs : ∀ (i : Nat) (ys : List V) (σ : St) (H : Hp) (N : List V → St → Hp → Prop), (∀ ys' σ' H', Pv (i + 1) ys' σ' H' → N ys' σ' H') → i < n → Pv i ys σ H → g (.int (lo + i)) σ H fun σ2 H2 => tc σ2 H2 fun b H3 =>
      if b = true then te σ2 H3 fun y H4 => H4 p = some (.lst ys) ∧ ys.length < sizeLine ∧ N (ys ++ [y]) σ2 (upd H4 p (.lst (ys ++ [y]))) else N ys σ2 H3)
    (hd : ∀ ys σ H, Pv n ys σ H → Q (.ref p) H) : CompGo (Itr lo n) p Q g tc te σ0 H0 := by
  refine ⟨fun i m ys σ H => m = n - i ∧ i ≤ n ∧ Pv i ys σ H, ⟨n, by simp, Nat.zero_le _, h0⟩, ?_⟩
  rintro i m ys σ H ⟨rfl, hi, pv⟩
  by_cases hlt : i < n
  · refine .inr ⟨hlt, fun x H' y => ?_⟩
    obtain ⟨rfl, rfl⟩ := y
    exact hs i ys σ _ (fun ys' σ' H' => ∃ m', m' < n - i ∧ (m' = n - (i + 1) ∧ i + 1 ≤ n ∧ Pv (i + 1) ys' σ' H')) (fun ys' σ' H' pv' => ⟨n - (i + 1), by omega, rfl, hlt, pv'⟩) hlt pv
  · have e : i = n := by omega
    subst e
    exact .inl ⟨Nat.le_refl _, hd ys σ H pv⟩
theorem pb_len : bootBuiltins "len" = some (.builtin "len") := by decide +kernel
theorem pb_isinstance : bootBuiltins "isinstance" = some (.builtin "isinstance") := by decide +kernel
theorem pb_all : bootBuiltins "all" = some (.builtin "all") := by decide +kernel
theorem pb_sorted : bootBuiltins "sorted" = some (.builtin "sorted") := by decide +kernel
theorem pb_int : bootBuiltins "int" = some (.type "int") := by decide +kernel
theorem pb_list : bootBuiltins "list" = some (.type "list") := by decide +kernel
theorem pb_tuple : bootBuiltins "tuple" = some (.type "tuple") := by decide +kernel
theorem pb_bool : bootBuiltins "bool" = some (.type "bool") := by decide +kernel
section
variable {X : Cx} {a b o e : Expr} {es : List Expr} {ta tb to : TE} {t : TA} {pos apos cpos : Pos} {f name : Str} {T id : String} {r : V → List V → Hp → VK → Prop}
theorem call_tuple_ofK (K : PySem.W.Frag) (h : X.K = K) : CallR X (.type "tuple") (fun xs H Q => ∃ p ys, xs = [.ref p] ∧ ((SqL K H p ys ∧ ∀ l, H l = none → Q (.ref l) (upd H l (.tup ys))) ∨ (SqT K H p ys ∧ Q (.ref p) H))) := by subst h; exact call_tuple_of
theorem ix_tupK (K : PySem.W.Frag) (h : X.K = K) : IxR X (rIxT K) := by subst h; exact ix_tup
end
theorem lookup_mem {x : Str} {k : NameKind} : ∀ {l : List (Str × NameKind)}, l.lookup x = some k → ∃ y, (y, k) ∈ l
  | [], h => by simp at h
  | (n, j) :: r, h => by
    rw [List.lookup_cons] at h
    cases q : x == n with
    | true =>
      rw [q] at h
      cases h
      exact ⟨n, List.mem_cons_self⟩
    | false =>
      rw [q] at h
      obtain ⟨y, hy⟩ := lookup_mem h
      exact ⟨y, List.mem_cons_of_mem _ hy⟩
theorem ct_plain {X : Cx} {Nc : List Str} {scope : Scope} (own : Nat) (hf : ∀ y ∈ scope.names, y.2 ≠ .free) (hc : ∀ y ∈ scope.names, y.2 ≠ .cell) (hk : scope.kind = .function) (hn : ∀ y ∈ scope.names, y.2 = .local → scope.names.lookup y.1 = some .local)
    (hl : Nc.length = own) : CompTxt X Nc own [] scope [] where
  clos := closureFor_none hf
  kind := hk
  nocell := hc
  names := hn
  cells := fun x c h => by cases h
  has := fun x h => by
    have key : ∀ k, (relabel scope X.env).names.lookup x = some k → k ≠ .cell ∧ k ≠ .free := fun k e => by
      obtain ⟨y, hy⟩ := lookup_mem e
      obtain ⟨⟨n, k0⟩, hm, e2⟩ := List.mem_map.mp hy
      have h1 := hf _ hm
      have h2 := hc _ hm
      have e3 : (k0 == NameKind.free) = false := by simpa using h1
      simp only [e3, Bool.false_and, Bool.false_eq_true, if_false] at e2
      cases e2
      exact ⟨h2, h1⟩
    rcases h with h | h
    · exact absurd rfl (key _ h).1
    · exact absurd rfl (key _ h).2
  len := by simpa using hl
  outer := fun i x h => by
    rw [List.getElem?_eq_none (by omega)] at h
    cases h
theorem for_anyN {K : PySem.W.Frag} {c : Bool} {a : Addr} {xs : List V} {g : TG} {tb : TS} {D : Ends} {σ : St} {H : Hp} (Pv : Nat → St → Hp → Prop) (h0 : Pv 0 σ H) (hl : ∀ i σ H, i ≤ xs.length → Pv i σ H → SqX K c H a xs)
    (hs : ∀ (i : Nat) (x : V) (σ : St) (H : Hp) (N : St → Hp → Prop), (∀ σ' H', Pv (i + 1) σ' H' → N σ' H') → xs[i]? = some x → Pv i σ H → g x σ H fun σ2 H2 => tb { D with nx := N, ct := N, bk := D.nx } σ2 H2) (hd : ∀ σ H, Pv xs.length σ H → D.nx σ H) :
    ForGo (Itx K c a) D g tb σ H := for_any Pv h0 hl (fun i x σ H hx p => hs i x σ H (Pv (i + 1)) (fun _ _ z => z) hx p) hd
theorem for_listN {K : PySem.W.Frag} {a : Addr} {xs : List V} {g : TG} {tb : TS} {D : Ends} {σ : St} {H : Hp} (Pv : Nat → St → Hp → Prop) (h0 : Pv 0 σ H) (hl : ∀ i σ H, i ≤ xs.length → Pv i σ H → SqL K H a xs)
    (hs : ∀ (i : Nat) (x : V) (σ : St) (H : Hp) (N : St → Hp → Prop), (∀ σ' H', Pv (i + 1) σ' H' → N σ' H') → xs[i]? = some x → Pv i σ H → g x σ H fun σ2 H2 => tb { D with nx := N, ct := N, bk := D.nx } σ2 H2) (hd : ∀ σ H, Pv xs.length σ H → D.nx σ H) :
    ForGo (Itl K a) D g tb σ H := for_list Pv h0 hl (fun i x σ H hx p => hs i x σ H (Pv (i + 1)) (fun _ _ z => z) hx p) hd
theorem for_tupN {K : PySem.W.Frag} {a : Addr} {xs : List V} {g : TG} {tb : TS} {D : Ends} {σ : St} {H : Hp} (Pv : Nat → St → Hp → Prop) (h0 : Pv 0 σ H) (hl : ∀ i σ H, i ≤ xs.length → Pv i σ H → SqT K H a xs)
    (hs : ∀ (i : Nat) (x : V) (σ : St) (H : Hp) (N : St → Hp → Prop), (∀ σ' H', Pv (i + 1) σ' H' → N σ' H') → xs[i]? = some x → Pv i σ H → g x σ H fun σ2 H2 => tb { D with nx := N, ct := N, bk := D.nx } σ2 H2) (hd : ∀ σ H, Pv xs.length σ H → D.nx σ H) :
    ForGo (Itt K a) D g tb σ H := for_tup Pv h0 hl (fun i x σ H hx p => hs i x σ H (Pv (i + 1)) (fun _ _ z => z) hx p) hd
theorem for_rangeN {lo : Int} {n : Nat} {g : TG} {tb : TS} {D : Ends} {σ : St} {H : Hp} (Pv : Nat → St → Hp → Prop) (h0 : Pv 0 σ H)
    (hs : ∀ (i : Nat) (σ : St) (H : Hp) (N : St → Hp → Prop), (∀ σ' H', Pv (i + 1) σ' H' → N σ' H') → i < n → Pv i σ H → g (.int (lo + i)) σ H fun σ2 H2 => tb { D with nx := N, ct := N, bk := D.nx } σ2 H2) (hd : ∀ σ H, Pv n σ H → D.nx σ H) :
    ForGo (Itr lo n) D g tb σ H := for_range Pv h0 (fun i σ H hi p => hs i σ H (Pv (i + 1)) (fun _ _ z => z) hi p) hd
theorem while_n {c : TT} {tb : TS} {D : Ends} {σ : St} {H : Hp} (W : Nat → St → Hp → Prop) (n0 : Nat) (h0 : W n0 σ H)
    (hs : ∀ (n : Nat) (σ : St) (H : Hp) (N : St → Hp → Prop), (∀ n' σ' H', n' < n → W n' σ' H' → N σ' H') → (∀ σ' H', N σ' H' → ∃ m', m' < n ∧ W m' σ' H') → W n σ H →
      c σ H fun b H1 => if b = true then ∃ N : St → Hp → Prop, (∀ σ' H', N σ' H' → ∃ m', m' < n ∧ W m' σ' H') ∧ tb { D with nx := N, ct := N, bk := D.nx } σ H1 else D.nx σ H1) : tWhile c tb D σ H :=
  ⟨W, ⟨n0, h0⟩, fun n σ H w => hs n σ H (fun σ' H' => ∃ m', m' < n ∧ W m' σ' H') (fun n' _ _ hn w' => ⟨n', hn, w'⟩) (fun _ _ z => z) w⟩
theorem p60 : (0 : Int) < 10 ^ (60 : Int).toNat := Int.pow_pos (by decide)
theorem bits_le {a : Int} {n : Nat} (h : a.natAbs < 2 ^ n) : Builtin.Int.intBits a ≤ n := by
  unfold Builtin.Int.intBits
  by_cases z : a = 0
  · subst z; simp
  · have hz : (a == 0) = false := by simpa using z
    rw [hz]
    simp only [Bool.false_eq_true, if_false]
    have := (Nat.log2_lt (by omega)).mpr h
    omega
theorem mul_ok {a b : Int} (ha : a.natAbs < 2 ^ 4000) (hb : b.natAbs < 2 ^ 4000) : IntMulOk a b :=
  IntMulOk.of_bits (Nat.le_trans (bits_le ha) (by decide)) (Nat.le_trans (bits_le hb) (by decide))
theorem add_bits {a b : Int} {n : Nat} (ha : a.natAbs < 2 ^ n) (hb : b.natAbs < 2 ^ n) : (a + b).natAbs < 2 ^ (n + 1) := by
  have := Int.natAbs_add_le a b
  rw [Nat.pow_succ]
  omega
theorem mul_bits {a b : Int} {m n : Nat} (ha : a.natAbs < 2 ^ m) (hb : b.natAbs < 2 ^ n) : (a * b).natAbs < 2 ^ (m + n) := by
  rw [Int.natAbs_mul, Nat.pow_add]
  exact Nat.mul_lt_mul'' ha hb
theorem up_bits {a : Int} {m n : Nat} (h : a.natAbs < 2 ^ m) (hm : m ≤ n) : a.natAbs < 2 ^ n := Nat.lt_of_lt_of_le h (Nat.pow_le_pow_right (by decide) hm)
theorem p60_bits : (10 ^ (60 : Int).toNat : Int).natAbs < 2 ^ 200 := by decide +kernel
theorem mod_bits {c M : Int} {n : Nat} (h0 : 0 < M) (h : M.natAbs < 2 ^ n) : (c % M).natAbs < 2 ^ n := by
  have h1 := Int.emod_nonneg c (Int.ne_of_gt h0)
  have h2 := Int.emod_lt_of_pos c h0
  omega
theorem stir_bits (c i : Int) (h0 : 0 ≤ i) (h1 : i ≤ 1000000) : (c % 10 ^ (60 : Int).toNat + 3).natAbs < 2 ^ 300 ∧ (16180339887498948482045868343656381177203 + 2 * i * i).natAbs < 2 ^ 300 ∧
    ((c % 10 ^ (60 : Int).toNat + 3) * (16180339887498948482045868343656381177203 + 2 * i * i) + 6151 * i).natAbs < 2 ^ 4000 := by
  have hi : i.natAbs < 2 ^ 20 := by omega
  have a1 : (c % 10 ^ (60 : Int).toNat + 3).natAbs < 2 ^ 201 := add_bits (mod_bits p60 p60_bits) (by decide +kernel)
  have b1 : (2 * i * i).natAbs < 2 ^ 199 := up_bits (mul_bits (mul_bits (a := 2) (m := 2) (by decide) hi) hi) (by decide)
  have b2 : (16180339887498948482045868343656381177203 + 2 * i * i).natAbs < 2 ^ 200 := add_bits (by decide +kernel) b1
  have c1 : (6151 * i).natAbs < 2 ^ 401 := up_bits (mul_bits (a := 6151) (m := 20) (by decide) hi) (by decide)
  exact ⟨up_bits a1 (by decide), up_bits b2 (by decide), up_bits (add_bits (mul_bits a1 b2) c1) (by decide)⟩
open Pb
def vRoad (r : Road) : List V := [.int r.a, .int r.b, .int r.t, .int r.u]
abbrev RoadsAt (H : Hp) : List Addr → List Road → Prop := Paired fun p r => H p = some (.tup (vRoad r))
theorem RoadsAt.same {H H' : Hp} (e : Same H H') {ps : List Addr} {rs : List Road} (h : RoadsAt H ps rs) : RoadsAt H' ps rs := Paired.imp' (fun p r q => e p _ q) h
theorem RoadsAt.get {H : Hp} : ∀ {ps : List Addr} {rs : List Road} {i : Nat} {x : V}, RoadsAt H ps rs → (ps.map V.ref)[i]? = some x → ∃ p r, x = .ref p ∧ ps[i]? = some p ∧ rs[i]? = some r ∧ H p = some (.tup (vRoad r))
  | _, _, i, x, .nil, e => by simp at e
  | _, _, 0, x, .cons (a := p) (b := r) h hs, e => ⟨p, r, by simpa using e.symm, by simp, by simp, h⟩
  | a :: l1, _, i + 1, x, .cons h hs, e => by
    have e' : (List.map V.ref l1)[i]? = some x := by simpa using e
    obtain ⟨p, r, h1, h2, h3, h4⟩ := RoadsAt.get hs e'
    exact ⟨p, r, h1, by simpa using h2, by simpa using h3, h4⟩
theorem Same.tup {K : PySem.W.Frag} {H H' : Hp} {a : Addr} {xs : List V} (e : Same H H') (h : SqT K H a xs) : SqT K H' a xs := by
  rcases h with (h | ⟨o, h⟩) | h
  · exact .inl (.inl (e _ _ h))
  · exact .inl (.inr ⟨o, e _ _ h⟩)
  · exact .inr h
theorem Same.sqX {K : PySem.W.Frag} {H H' : Hp} {c : Bool} {a : Addr} {xs : List V} (e : Same H H') (h : SqX K c H a xs) : SqX K c H' a xs := by
  cases c
  · exact Same.tup e h
  · exact Same.seq e h
theorem Same.new {H : Hp} {p : Addr} (o : HO) (h : H p = none) : Same H (upd H p o) := fun b u e => by rw [upd_ne (ne_of_none e h)]; exact e
end L2
set_option Elab.async false
set_option linter.all false
set_option maxRecDepth 100000
namespace L2
open PySem PySem.Spec PyProof.Rows
abbrev bmV : List Value := [.type "ValueError", .type "Exception", .type "BaseException", .type "object"]
section
variable {prog : Program} {w : World} {A : Around} {E : Value → Shared → Prop} {s : Shared} {K : PySem.W.Frag} {x C : Addr} {ox : Obj} {od : Option Obj}
end
end L2
set_option Elab.async false
set_option linter.all false
set_option maxRecDepth 100000
namespace L2
open PySem PySem.Spec PyProof.Rows
def ErrO (h : Heap) (ea : Addr) (cls : Value) (od : Option Addr) (head : Value) : Prop := ∃ oe vs, h.get? ea = some oe ∧ oe.cls = cls ∧ oe.dict = od ∧ oe.data = .fields vs ∧ vs[1]? = some head
def TbO (h : Heap) (T : Addr) (fl : Value) : Prop := ∃ oT ts, h.get? T = some oT ∧ oT.data = .fields ts ∧ ts[3]? = some fl
structure Err (h : Heap) (ea T : Addr) (cls : Value) (od : Option Addr) (fl : Value) : Prop where
  e : ErrO h ea cls od (.ref T)
  t : TbO h T fl
  ne : T ≠ ea
structure Kept (fs xs : List Addr) (h h' : Heap) : Prop where
  keep : ∀ b o, h.get? b = some o → b ∉ fs → b ∉ xs → h'.get? b = some o
  slot : ∀ b o, h.get? b = some o → b ∈ fs → b ∉ xs → ∃ sl, h'.get? b = some { o with slots := sl }
  there : ∀ b o, h.get? b = some o → ∃ o', h'.get? b = some o'
theorem Kept.mono {fs xs ys : List Addr} {h h' : Heap} (k : Kept fs xs h h') (s : ∀ b ∈ xs, b ∈ ys) : Kept fs ys h h' := ⟨fun b o e f x => k.keep b o e f fun z => x (s b z), fun b o e f x => k.slot b o e f fun z => x (s b z), k.there⟩
theorem Kept.trans {fs xs : List Addr} {h h1 h2 : Heap} (a : Kept fs xs h h1) (b : Kept fs xs h1 h2) : Kept fs xs h h2 where
  keep := fun c o e f x => b.keep c o (a.keep c o e f x) f x
  slot := fun c o e f x => by
    obtain ⟨s1, e1⟩ := a.slot c o e f x
    obtain ⟨s2, e2⟩ := b.slot c _ e1 f x
    exact ⟨s2, e2⟩
  there := fun c o e => by
    obtain ⟨o1, e1⟩ := a.there c o e
    exact b.there c o1 e1
theorem Kept.of_all {fs xs : List Addr} {h h' : Heap} (k : ∀ b o, h.get? b = some o → h'.get? b = some o) : Kept fs xs h h' := ⟨fun b o e _ _ => k b o e, fun b o e _ _ => ⟨o.slots, k b o e⟩, fun b o e => ⟨o, k b o e⟩⟩
theorem kept_set {fs xs : List Addr} {h : Heap} {a : Addr} {oa : Obj} {vs : Array Value} {i : Nat} {v : Value} (ha : h.get? a = some oa) (hd : oa.data = .fields vs) (hx : a ∈ xs) : Kept fs xs h (h.update a (Obj.mapFields (·.setIfInBounds i v))) := by
  have oth : ∀ b o, h.get? b = some o → b ∉ xs → (h.update a (Obj.mapFields (·.setIfInBounds i v))).get? b = some o := fun b o e x => by
    rw [Heap.get?_update_other _ _ (fun (z : a = b) => x (z ▸ hx))]
    exact e
  refine ⟨fun b o e _ x => oth b o e x, fun b o e _ x => ⟨o.slots, oth b o e x⟩, fun b o e => ?_⟩
  by_cases z : b = a
  · subst z
    exact ⟨_, Heap.get?_update_self _ ha (Obj.isFreed_of_fields (Obj.data_mapFields hd _))⟩
  · rw [Heap.get?_update_other _ _ (Ne.symm z)]
    exact ⟨o, e⟩
theorem errO_set {h : Heap} {ea : Addr} {cls hd v : Value} {od : Option Addr} (e : ErrO h ea cls od hd) : ErrO (h.update ea (Obj.mapFields (·.setIfInBounds 1 v))) ea cls od v := by
  obtain ⟨oe, vs, h1, h2, h3, h4, h5⟩ := e
  have sz : 1 < vs.size := (Array.getElem?_eq_some_iff.mp h5).1
  refine ⟨_, _, Heap.get?_update_self _ h1 (Obj.isFreed_of_fields (Obj.data_mapFields h4 _)), ?_, ?_, Obj.data_mapFields h4 _, by simp [sz]⟩
  · rw [← h2]; exact Obj.cls_mapFields _ _
  · rw [← h3]; obtain ⟨c, d, dt, sl⟩ := oe; cases dt <;> rfl
theorem errO_other {h : Heap} {ea a : Addr} {cls hd : Value} {od : Option Addr} {f : Obj → Obj} (e : ErrO h ea cls od hd) (ne : a ≠ ea) : ErrO (h.update a f) ea cls od hd := by
  obtain ⟨oe, vs, h1, h2⟩ := e
  exact ⟨oe, vs, by rw [Heap.get?_update_other _ _ ne]; exact h1, h2⟩
theorem errO_keep {h h' : Heap} {ea : Addr} {cls hd : Value} {od : Option Addr} (e : ErrO h ea cls od hd) (k : ∀ o, h.get? ea = some o → h'.get? ea = some o) : ErrO h' ea cls od hd := by
  obtain ⟨oe, vs, h1, h2⟩ := e
  exact ⟨oe, vs, k _ h1, h2⟩
theorem errO_nofr {h base : Heap} {ea : Addr} {cls hd : Value} {od : Option Addr} {l : List Env} (e : ErrO h ea cls od hd) (f : h.FunFrames base l) : ea ∉ frs l := fun z => by
  obtain ⟨oe, vs, h1, _, _, h4, _⟩ := e
  obtain ⟨_, o, ho, hn⟩ := f.mem z
  rw [h1] at ho
  cases ho
  exact hn vs h4
theorem tbO_nofr {h base : Heap} {T : Addr} {fl : Value} {l : List Env} (e : TbO h T fl) (f : h.FunFrames base l) : T ∉ frs l := fun z => by
  obtain ⟨oe, vs, h1, h4, _⟩ := e
  obtain ⟨_, o, ho, hn⟩ := f.mem z
  rw [h1] at ho
  cases ho
  exact hn vs h4
section
variable {M : Model} {A : Around} {E : Value → Shared → Prop} {s : Shared} {Q : Unit → Shared → Prop} {fs : List Addr} {ea T L : Addr} {cls fl hd : Value} {od : Option Addr} {base : Heap} {env : Env} {outer : List Env}
theorem st_land (r : Err s.heap ea T cls od fl) (h : ∀ h', Err h' ea T cls od .none → Kept fs [T] s.heap h' → Q () { s with heap := h' }) : wpAny M A (setFlight (.ref ea) none) Q E s := by
  obtain ⟨⟨oe, vs, h1, h2, h3, h4, h5⟩, ⟨oT, ts, t1, t2, t3⟩, ne⟩ := r
  have sz : 3 < ts.size := (Array.getElem?_eq_some_iff.mp t3).1
  unfold setFlight
  refine wpAny_bind (wpAny_field h1 h4 h5 ?_)
  rw [if_pos (by simp : (Value.ref T != Value.none) = true)]
  refine wpAny_setField t1 t2 sz (h _ ⟨errO_other ⟨oe, vs, h1, h2, h3, h4, h5⟩ ne, ⟨_, _, Heap.get?_update_self _ t1 (Obj.isFreed_of_fields (Obj.data_mapFields t2 _)), Obj.data_mapFields t2 _, by simp [sz]⟩, ne⟩ (kept_set t1 t2 (by simp)))
theorem st_entry {head : Value} {hadNext : Bool} (hfr : A.frames = some (env :: outer)) (hl : s.heap.FunFrames base (env :: outer)) (hf : env.frame = some L) (r : ErrO s.heap ea cls od hd)
    (h : ∀ h' T', Err h' ea T' cls od (rawInt L) → Kept (frs (env :: outer)) [ea] s.heap h' → s.heap.get? T' = none → Q () { s with heap := h' }) :
    wpAny M A (do let a ← frameOf env; let pl ← entryPlaceOf L hadNext; let b ← EntryCells.newEntry head a .none (rawInt L) .none pl; setField (.ref ea) 1 b) Q E s := by
  have nf := errO_nofr r hl
  refine wpAny_bind (wpAny_frameOf_fun hfr hl hf fun g1 so => wpAny_bind (wpAny_entryPlaceOf fun pl hpl => ?_))
  unfold EntryCells.newEntry newFields
  refine wpAny_bind (wpAny_newObj_type ?_ (hpl.sizeOk5 _ _ _ _ _))
  have r1 : ErrO g1 ea cls od hd := errO_keep r fun o e => (so.2.1 ea nf).trans e
  generalize ht : ({ cls := .type "traceback", dict := none, data := .fields ([head, .ref L, .none, rawInt L, .none] ++ (if pl.isEmpty then List.replicate 6 Value.none else pl)).toArray } : Obj) = tb
  have r2 : ErrO (g1.push tb) ea cls od hd := errO_keep r1 fun o e => Heap.get?_push_of_some _ e
  obtain ⟨oe, vs, e1, e2, e3, e4, e5⟩ := id r2
  have lt : ea < g1.objs.size := by
    obtain ⟨_, _, e, _⟩ := r1
    exact Heap.lt_size e
  have hT : (g1.push tb).get? g1.objs.size = some tb := Heap.get?_push_size g1 (by rw [← ht]; rfl)
  refine wpAny_setField e1 e4 (Array.getElem?_eq_some_iff.mp e5).1 (h _ g1.objs.size ⟨errO_set r2, ⟨tb, ([head, .ref L, .none, rawInt L, .none] ++ (if pl.isEmpty then List.replicate 6 Value.none else pl)).toArray, ?_, by rw [← ht], by simp⟩, Nat.ne_of_gt lt⟩ ?_ ?_)
  · rw [Heap.get?_update_other _ _ (Nat.ne_of_lt lt)]
    exact hT
  · have k1 : Kept (frs (env :: outer)) [ea] s.heap g1 := ⟨fun b o e f _ => (so.2.1 b f).trans e, fun b o e _ _ => so.2.2 b o e, fun b o e => by
      obtain ⟨sl, z⟩ := so.2.2 b o e
      exact ⟨_, z⟩⟩
    exact k1.trans ((Kept.of_all fun b o e => Heap.get?_push_of_some _ e).trans (kept_set e1 e4 (by simp)))
  · exact Heap.get?_none_of_le (by rw [so.1]; exact Nat.le_refl _)
theorem st_first (hfr : A.frames = some (env :: outer)) (hl : s.heap.FunFrames base (env :: outer)) (hf : env.frame = some L) (r : ErrO s.heap ea cls od .none)
    (h : ∀ h' T', Err h' ea T' cls od (rawInt L) → Kept (frs (env :: outer)) [ea] s.heap h' → s.heap.get? T' = none → Q () { s with heap := h' }) : wpAny M A (noteFrame (.ref ea) env) Q E s := by
  obtain ⟨oe, vs, e1, e2, e3, e4, e5⟩ := id r
  unfold noteFrame
  simp only [hf]
  refine wpAny_bind (wpAny_field e1 e4 e5 ?_)
  rw [if_neg (by decide)]
  exact st_entry hfr hl hf r h
theorem st_next (hfr : A.frames = some (env :: outer)) (hl : s.heap.FunFrames base (env :: outer)) (hf : env.frame = some L) (r : Err s.heap ea T cls od .none)
    (h : ∀ h' T', Err h' ea T' cls od (rawInt L) → Kept (frs (env :: outer)) [ea, T] s.heap h' → s.heap.get? T' = none → Q () { s with heap := h' }) : wpAny M A (noteFrame (.ref ea) env) Q E s := by
  have nT := tbO_nofr r.t hl
  obtain ⟨⟨oe, vs, e1, e2, e3, e4, e5⟩, ⟨oT, ts, t1, t2, t3⟩, ne⟩ := id r
  unfold noteFrame
  simp only [hf]
  refine wpAny_bind (wpAny_field e1 e4 e5 ?_)
  rw [if_pos (by simp : (Value.ref T != Value.none) = true)]
  refine wpAny_bind (wpAny_field t1 t2 t3 ?_)
  rw [if_neg (by simp [rawInt])]
  have k1 : Kept (frs (env :: outer)) [ea, T] s.heap (s.heap.update T (Obj.mapFields (·.setIfInBounds 3 Value.none))) := kept_set t1 t2 (by simp)
  refine wpAny_bind (wpAny_setField t1 t2 (Array.getElem?_eq_some_iff.mp t3).1 ?_)
  refine st_entry hfr (hl.of_keeps fun b o e nf => ⟨o, ?_, rfl⟩) hf (errO_other r.e ne) fun h' T' r' k2 n => h h' T' r' (k1.trans (k2.mono (by simp))) ?_
  · by_cases z : b = T
    · subst z
      rw [t1] at e
      cases e
      exact absurd t2 (nf ts)
    · rw [Heap.get?_update_other _ _ (Ne.symm z)]
      exact e
  · cases q : s.heap.get? T' with
    | none => rfl
    | some o =>
      obtain ⟨o', z⟩ := k1.there T' o q
      rw [z] at n
      cases n
theorem st_leave1 (hfr : A.frames = some (env :: outer)) (hl : s.heap.FunFrames base (env :: outer)) (hf : env.frame = some L) (r : ErrO s.heap ea cls od .none)
    (h : ∀ h' T', Err h' ea T' cls od .none → Kept (frs (env :: outer)) [ea] s.heap h' → s.heap.get? T' = none → Q () { s with heap := h' }) : wpAny M A (leaving env (.ref ea)) Q E s := by
  unfold leaving
  refine wpAny_bind (st_first hfr hl hf r fun h1 T1 r1 k1 n1 => st_land (fs := frs (env :: outer)) (s := { s with heap := h1 }) r1 fun h2 r2 k2 => h h2 T1 r2 ⟨fun b o e f x => k2.keep b o (k1.keep b o e f x) f ?_, fun b o e f x => ?_, fun b o e => ?_⟩ n1)
  · simp only [List.mem_singleton]
    rintro rfl
    rw [n1] at e
    cases e
  · obtain ⟨s1, e1⟩ := k1.slot b o e f x
    obtain ⟨s2, e2⟩ := k2.slot b _ e1 f (by
      simp only [List.mem_singleton]
      rintro rfl
      rw [n1] at e
      cases e)
    exact ⟨s2, e2⟩
  · obtain ⟨o1, e1⟩ := k1.there b o e
    exact k2.there b o1 e1
theorem st_leave (hfr : A.frames = some (env :: outer)) (hl : s.heap.FunFrames base (env :: outer)) (hf : env.frame = some L) (r : Err s.heap ea T cls od .none)
    (h : ∀ h' T', Err h' ea T' cls od .none → Kept (frs (env :: outer)) [ea, T] s.heap h' → s.heap.get? T' = none → Q () { s with heap := h' }) : wpAny M A (leaving env (.ref ea)) Q E s := by
  unfold leaving
  refine wpAny_bind (st_next hfr hl hf r fun h1 T1 r1 k1 n1 => st_land (fs := frs (env :: outer)) (s := { s with heap := h1 }) r1 fun h2 r2 k2 => h h2 T1 r2 ⟨fun b o e f x => k2.keep b o (k1.keep b o e f x) f ?_, fun b o e f x => ?_, fun b o e => ?_⟩ n1)
  · simp only [List.mem_singleton]
    rintro rfl
    rw [n1] at e
    cases e
  · obtain ⟨s1, e1⟩ := k1.slot b o e f x
    obtain ⟨s2, e2⟩ := k2.slot b _ e1 f (by
      simp only [List.mem_singleton]
      rintro rfl
      rw [n1] at e
      cases e)
    exact ⟨s2, e2⟩
  · obtain ⟨o1, e1⟩ := k1.there b o e
    exact k2.there b o1 e1
end
def CXe (P : Program) (w : World) : CXT := fun outer H s E e s' => ∃ (ea T : Addr) (cls : Value) (od : Option Addr) (H' : Hp), e = .ref ea ∧ s'.os = s.os ∧ AllBare s'.gens ∧ Un (frs outer) [] H H' s.heap s'.heap ∧ HOk P w H' s'.heap ∧
  H' ea = none ∧ H' T = none ∧ s.heap.get? ea = none ∧ s.heap.get? T = none ∧ Err s'.heap ea T cls od .none ∧ E cls od H'
theorem quietE {P : Program} {w : World} : Quiet (CXe P w) := fun outer H s e s' h => by
  obtain ⟨_, _, _, _, _, _, _, _, _, _, _, _, _, _, _, z⟩ := h
  exact z
theorem kept_hok {P : Program} {w : World} {H : Hp} {h h' : Heap} {fs xs : List Addr} (x : HOk P w H h) (k : Kept fs xs h h') (f : ∀ b ∈ fs, H b = none) (u : ∀ b ∈ xs, H b = none) : HOk P w H h' := fun a o e => by
  refine (x a o e).stay (fun b ob hb q => k.keep b ob q ?_ ?_) (fun _ q => q) fun _ _ q => q
  · intro z
    rcases hb with rfl | hb
    · rw [f _ z] at e; cases e
    · rw [f _ z] at hb; cases hb
  · intro z
    rcases hb with rfl | hb
    · rw [u _ z] at e; cases e
    · rw [u _ z] at hb; cases hb
theorem untr {P : Program} {w : World} {H : Hp} {h : Heap} {b : Addr} (x : HOk P w H h) (n : h.get? b = none) : H b = none := by
  cases q : H b with
  | none => rfl
  | some o =>
    have lt := x.lt q
    cases z : h.get? b with
    | some o' => rw [z] at n; cases n
    | none =>
      exfalso
      have := (x b o q)
      cases o with
      | lst xs => obtain ⟨_, _, _, _, e⟩ := this; rw [n] at e; cases e
      | tup xs => obtain ⟨_, _, _, ob, e, _⟩ := this; rw [n] at e; cases e
      | dK kvs => obtain ⟨_, _, _, _, ob, _, _, e, _⟩ := this; rw [n] at e; cases e
      | dT kvs => obtain ⟨_, _, _, _, ob, _, _, e, _⟩ := this; rw [n] at e; cases e
      | set S m => obtain ⟨ob, _, _, _, e, _⟩ := this; rw [n] at e; cases e
      | ins C dx fs => obtain ⟨_, _, _, e, _⟩ := this; rw [n] at e; cases e
      | own y => obtain ⟨_, e⟩ := this; rw [n] at e; cases e
      | xd fs => obtain ⟨_, ⟨_, _, _, e, _⟩, _⟩ := this; rw [n] at e; cases e
      | rng lo hi => obtain ⟨_, _, _, e⟩ := this; rw [n] at e; cases e
      | frz ob u => obtain ⟨e, _⟩ := this; rw [n] at e; cases e
      | tbl ps => have e : h.get? b = some _ := this; rw [n] at e; cases e
      | met f y => have e : h.get? b = some _ := this; rw [n] at e; cases e
      | ext φ => obtain ⟨_, ⟨_, e⟩, _⟩ := this; rw [n] at e; cases e
section
variable {P : Program} {w : World} {K : PySem.W.Frag} {mg : Str → Option Value} {base : Heap} {N : List Str} {qual : Str} {scope : Scope} {f : Addr} {cd : Value} {A : Around} {outer : List Env} {s : Shared} {H : Hp} {E : XK}
theorem un_leave {CX : CXT} {pins : List (Addr × Obj)} {σ : St} {H' : Hp} {s' : Shared} {h' : Heap} {xs : List Addr} (J : Inv (cxOf CX P w K mg base N qual scope f cd A outer s H E) pins σ H' s') (k : Kept (frs (envOfC qual scope s.heap.objs.size f cd :: outer)) xs s'.heap h') (nx : ∀ b ∈ xs, s.heap.get? b = none) :
    Un (frs outer) [] H H' s.heap h' := by
  have b0 : Un (frs outer) [] H H' s.heap s'.heap := J.base
  have nl : ∀ b o, s.heap.get? b = some o → b ∉ xs := fun b o e z => by rw [nx b z] at e; cases e
  have nf : ∀ b o, s.heap.get? b = some o → b ∉ frs outer → b ∉ frs (envOfC qual scope s.heap.objs.size f cd :: outer) := fun b o e z m => by
    unfold frs at m z
    rw [List.filterMap_cons] at m
    have : (envOfC qual scope s.heap.objs.size f cd).frame = some s.heap.objs.size := rfl
    rw [this] at m
    rcases List.mem_cons.mp m with m | m
    · exact absurd (Heap.lt_size e) (by rw [m]; exact Nat.lt_irrefl _)
    · exact z m
  refine ⟨fun b o e n hf hx => k.keep b o (b0.keep b o e n hf hx) (nf b o e hf) (nl b o e), fun b o e n hf hx => ?_, b0.free, fun b o e hx => ?_, b0.tups, b0.frzs, b0.tbls⟩
  · obtain ⟨sl, e1⟩ := b0.slot b o e n hf hx
    by_cases m : b ∈ frs (envOfC qual scope s.heap.objs.size f cd :: outer)
    · obtain ⟨s2, e2⟩ := k.slot b _ e1 m (nl b o e)
      exact ⟨s2, e2⟩
    · exact ⟨sl, k.keep b _ e1 m (nl b o e)⟩
  · obtain ⟨o1, e1⟩ := b0.there b o e hx
    exact k.there b o1 e1
theorem inv_old {CX : CXT} {pins : List (Addr × Obj)} {σ : St} {H' : Hp} {s' : Shared} (J : Inv (cxOf CX P w K mg base N qual scope f cd A outer s H E) pins σ H' s') {b : Addr} (n : s'.heap.get? b = none) : s.heap.get? b = none := by
  cases q : s.heap.get? b with
  | none => rfl
  | some o =>
    have b0 : Un (frs outer) [] H H' s.heap s'.heap := J.base
    obtain ⟨o', e⟩ := b0.there b o q (by simp)
    rw [n] at e
    cases e
theorem passX : Passes (CXe P w) (cxOf (CXe P w) P w K mg base N qual scope f cd A outer s H E) E := by
  intro pins σ H1 s1 e s' I h
  obtain ⟨ea, T, cls, od, H', rfl, os, bare, un, hok, n1, n2, f1, f2, er, q⟩ := h
  have J := I.call' (ch := []) os un hok bare (by simp)
  refine st_leave (base := base) J.ok.frames J.stack rfl er fun h' T' er' k nT => ?_
  have fr : ∀ b ∈ frs (envOfC qual scope s.heap.objs.size f cd :: outer), H' b = none := J.stkFree
  refine ⟨ea, T', cls, od, H', rfl, J.os, J.bare, un_leave J k ?_, kept_hok hok k fr ?_, n1, untr hok nT, inv_old I f1, inv_old J nT, er', q⟩
  · intro b hb
    simp only [List.mem_cons, List.not_mem_nil, or_false] at hb
    rcases hb with rfl | rfl
    · exact inv_old I f1
    · exact inv_old I f2
  · intro b hb
    simp only [List.mem_cons, List.not_mem_nil, or_false] at hb
    rcases hb with rfl | rfl
    · exact n1
    · exact n2
end
def Raises (X : Cx) (E : XK) : Prop := ∀ (pins : List (Addr × Obj)) (σ : St) (H : Hp) (s : Shared) (ea : Addr) (cls : Value) (od : Option Addr) (h' : Heap) (tk : Nat), Inv X pins σ H s → (∀ b o, s.heap.get? b = some o → h'.get? b = some o) → s.heap.get? ea = none → ErrO h' ea cls od .none → E cls od H →
  X.xe (.ref ea) { s with heap := h', toks := tk }
section
variable {P : Program} {w : World} {K : PySem.W.Frag} {mg : Str → Option Value} {base : Heap} {N : List Str} {qual : Str} {scope : Scope} {f : Addr} {cd : Value} {A : Around} {outer : List Env} {s : Shared} {H : Hp} {E : XK}
theorem raisesX : Raises (cxOf (CXe P w) P w K mg base N qual scope f cd A outer s H E) E := by
  intro pins σ H1 s1 ea cls od h' tk I kp nw er q
  have J := I.kept (t' := tk) kp
  refine st_leave1 (base := base) J.ok.frames J.stack rfl er fun h2 T' er' k nT => ?_
  have fr : ∀ b ∈ frs (envOfC qual scope s.heap.objs.size f cd :: outer), H1 b = none := J.stkFree
  refine ⟨ea, T', cls, od, H1, rfl, J.os, J.bare, un_leave J k ?_, kept_hok J.hok k fr ?_, untr I.hok nw, untr J.hok nT, inv_old I nw, inv_old J nT, er', q⟩
  · intro b hb
    rw [List.mem_singleton.mp hb]
    exact inv_old I nw
  · intro b hb
    rw [List.mem_singleton.mp hb]
    exact untr I.hok nw
end
end L2
set_option Elab.async false
set_option linter.all false
set_option maxRecDepth 100000
namespace L2
open PySem PySem.Spec PyProof.Rows
def XObj (K : PySem.W.Frag) (C : Addr) : Prop := ∃ (nm qn : Str) (N : Addr) (bs bm : List Value) (hdct : Bool) (sn : List Str) (sub : List Value) (ab : Bool) (col : Option Bool) (dd : Option Addr) (k0 k1 k2 k3 k5 : Option Value),
    K.lookup C = some (excClassObj nm qn C N bs bm hdct sn sub ab col dd k0 k1 k2 k3 k5 "ValueError.__new__") ∧ PySem.W.nsOkIn K N = true ∧ PySem.W.nsIn K N "__init__" = some none ∧ PySem.W.tailIn K bmV bm = true
theorem xobj_mk {K : PySem.W.Frag} {C : Addr} {o : Obj} (nm qn : Str) (N : Addr) (bs bm : List Value) (hdct : Bool) (sn : List Str) (sub : List Value) (ab : Bool) (col : Option Bool) (dd : Option Addr) (k0 k1 k2 k3 k5 : Option Value) (l : K.lookup C = some o)
    (e : o = excClassObj nm qn C N bs bm hdct sn sub ab col dd k0 k1 k2 k3 k5 "ValueError.__new__") (a : PySem.W.nsOkIn K N = true) (b : PySem.W.nsIn K N "__init__" = some none) (c : PySem.W.tailIn K bmV bm = true) : XObj K C := by
  subst e
  exact ⟨_, _, _, _, _, _, _, _, _, _, _, _, _, _, _, _, l, a, b, c⟩
def tRaise (C : Addr) (E : XK) (t : TA) : TS := fun _ σ H => t σ H fun vs H1 => vs.length ≤ sizeLine ∧ E (.ref C) none H1
section
variable {X : Cx} {x : Str} {np cpos pos : Pos} {e0 : Expr} {es : List Expr} {t : TA} {C : Addr} {E : XK}
theorem ps_raise (q : XObj X.K C) (hc : X.calm = true) (hR : Raises X E) (hg : Gl X x) (hm : X.mg x = some (.ref C)) (ha : PA X (e0 :: es) t) (hdb : (x == ("__debug__" : Str)) = false := by decide)
    (he : starEach (e0 :: es) X.env = (false, eval e0 X.env) :: starEach es X.env := by rfl) (hpl : (backTo cpos (starEach es X.env)).any (·.1) = false := by rfl) : PS X (.Raise (some (.Call (.Name x np) (e0 :: es) [] cpos)) none pos) (tRaise C E t) := by
  intro pins s σ H D I h
  obtain ⟨nm, qn, N, bs, bm, hdct, sn, sub, ab, col, dd, k0, k1, k2, k3, k5, ho, z5, z6, z4⟩ := q
  have B := I.mod.kin
  have T0 := PySem.W.tail_of_in B z4
  have N0 : X.base.Ns N (X.base.nsMap N) := .of_isNs (PySem.W.isNs_of_in B z5)
  have hp : (backTo cpos (starEach (e0 :: es) X.env)).any (·.1) = false := by
    rw [he]
    show (false || (backTo cpos (starEach es X.env)).any (·.1)) = false
    rw [hpl]
    rfl
  refine wpAny_Raise_call_subT (C := C) (nm := nm) (q := qn) (N := N) (bs := bs) (bm := bm) (hdct := hdct) (sn := sn) (sub := sub) (ab := ab) (col := col) (dd := dd) (k0 := k0) (k1 := k1) (k2 := k2) (k3 := k3) (k5 := k5) PySem.F.excBase_ValueError
    (T0.hasType (by decide +kernel)) (I.ok.hd hc) hp (PySem.W.nsMap_none_of_in B z5 z6) (ld_glob I hg hm ⟨rfl, ?_⟩ hdb)
  have g := ha cpos pins s σ H _ I h
  rw [he] at g ⊢
  refine Calls.evalArgs_plain (thn g fun us s1 ⟨vs, H1, I1, r1, q1⟩ => ⟨rfl, by show us.length ≤ _; rw [← r1.length]; exact q1.1, I1.bk _ _ (B _ _ ho), N0.keeps I1.bk, T0.keeps I1.bk, fun h' ea m => ?_⟩)
  obtain ⟨tt, m1, _, _⟩ := m.there
  exact hR pins σ H1 s1 ea (.ref C) none h' s1.toks I1 m.keeps m.new ⟨_, _, m1, rfl, rfl, rfl, rfl⟩ q1.2
end
section
variable {CX : CXT} {X : Cx} {k : Nat} {f C : Addr} {fd : FuncData} {ps : List Str} {sp : Sp} {dvs : List V} {ds : List Value} {x : Str} {p pos : Pos} {e : Expr} {es : List Expr} {te : TE} {t : TA} {st : Stmt} {sts : List Stmt} {ts : TS} {tx ux : (St → XK) → TS} {ex : XK → TE}
end
end L2
set_option Elab.async false
set_option linter.all false
set_option maxRecDepth 100000
namespace L2
open PySem PySem.Spec PyProof.Rows
section
variable {X : Cx} {pins : List (Addr × Obj)} {σ : St} {H : Hp} {s : Shared}
end
section
variable {K : PySem.W.Frag} {C C' : Addr} {x : Addr} {ox : Obj} {od : Option Obj} {M : Model} {A : Around} {E : Value → Shared → Prop} {s : Shared} {b : Bool} {Q : Bool → Shared → Prop}
end
end L2
set_option Elab.async false
set_option linter.all false
set_option maxRecDepth 100000
namespace L2
open PySem PySem.Spec PyProof.Rows
def ExO (ea : Addr) (cls : Value) (od : Option Addr) : HO := .ext fun h => ∃ oe vs, h.get? ea = some oe ∧ oe.cls = cls ∧ oe.dict = od ∧ oe.data = .fields vs
section
variable {X : Cx} {pins : List (Addr × Obj)} {σ : St} {H : Hp} {s : Shared}
end
abbrev TH := Ends → St → Value → Option Addr → Hp → Prop
def Ends.less (D : Ends) (i : Nat) : Ends := { nx := fun σ H => D.nx (σ.set i none) H, rt := D.rt, bk := fun σ H => D.bk (σ.set i none) H, ct := fun σ H => D.ct (σ.set i none) H }
def tHand (K : PySem.W.Frag) (C' : Addr) (i : Nat) (ts : TS) (tr : TH) : TH := fun D σ cls od H => ∃ C b, cls = .ref C ∧ PySem.W.mroIn K C (.ref C') = some b ∧
  if b = true then ∀ ea, H ea = none → ts (D.less i) (σ.set i (some (.ref ea))) (upd H ea (ExO ea cls od)) else tr D σ cls od H
section
variable {X : Cx} {x n : Str} {np pos : Pos} {i : Nat} {C' : Addr} {b0 : Stmt} {suite : List Stmt} {rest : List ExceptHandler} {ts : TS} {tr : TH}
def tTry (tb : (St → XK) → TS) (th : TH) : TS := fun D σ H => tb (fun σ' cls od H' => th D σ' cls od H') D σ H
end
end L2
set_option Elab.async false
set_option linter.all false
set_option maxRecDepth 100000
namespace L2
open PySem PySem.Spec PyProof.Rows
section
variable {P : Program} {w : World} {K : PySem.W.Frag} {mg : Str → Option Value} {base : Heap}
end
section
variable {X : Cx} {k : Nat} {f : Addr} {fd : FuncData} {ps : List Str} {sp : Sp} {x : Str} {p pos : Pos} {e : Expr} {es : List Expr} {t : TA}
end
section
variable {X : Cx}
end
def clOf (cells : List (Str × Addr)) : List (Str × NameKind) → List (Str × Addr) → List (Str × Addr)
  | [], acc => acc
  | (n, k) :: r, acc => if k == .free then clOf cells r ((n, (cells.lookup n).getD 0) :: acc) else clOf cells r acc
theorem closure_of {scope : Scope} {env : Env} (h : ∀ y ∈ scope.names, y.2 = .free → (env.cells.lookup y.1).isSome = true) : closureFor scope env = pure (clOf env.cells scope.names []) := by
  have key : ∀ (l : List (Str × NameKind)) (acc : List (Str × Addr)), (∀ y ∈ l, y.2 = .free → (env.cells.lookup y.1).isSome = true) →
      (forIn l acc fun (y : Str × NameKind) (c : List (Str × Addr)) => (if y.2 == NameKind.free then do let a ← cellOf env y.1; pure (ForInStep.yield ((y.1, a) :: c)) else pure (ForInStep.yield c) : Sem (ForInStep (List (Str × Addr))))) = (pure (clOf env.cells l acc) : Sem (List (Str × Addr))) := by
    intro l
    induction l with
    | nil => intro acc _; rfl
    | cons y l ih =>
      obtain ⟨n, k⟩ := y
      intro acc hh
      have h1 := hh (n, k) List.mem_cons_self
      have h2 : ∀ y ∈ l, y.2 = .free → (env.cells.lookup y.1).isSome = true := fun y hy => hh y (List.mem_cons_of_mem _ hy)
      rw [List.forIn_cons]
      unfold clOf
      cases q : k == NameKind.free with
      | false =>
        simp only [Bool.false_eq_true, if_false, pure_bind]
        exact ih acc h2
      | true =>
        obtain ⟨c, hc⟩ := Option.isSome_iff_exists.mp (h1 (by simpa using q))
        dsimp only at hc
        simp only [if_true, cellOf, hc, pure_bind, Option.getD_some]
        exact ih _ h2
  have := key scope.names [] h
  unfold closureFor
  simp only [bind_pure]
  exact this
theorem clOf_sub {cells : List (Str × Addr)} {x : Str} {c : Addr} : ∀ {l : List (Str × NameKind)} {acc : List (Str × Addr)}, (∀ y ∈ l, y.2 = .free → (cells.lookup y.1).isSome = true) → (∀ x c, acc.lookup x = some c → cells.lookup x = some c) → (clOf cells l acc).lookup x = some c → cells.lookup x = some c
  | [], acc, _, h2, h3 => h2 x c h3
  | (n, k) :: r, acc, h1, h2, h3 => by
    have h1' : ∀ y ∈ r, y.2 = .free → (cells.lookup y.1).isSome = true := fun y hy => h1 y (List.mem_cons_of_mem _ hy)
    unfold clOf at h3
    cases q : k == NameKind.free with
    | false =>
      rw [q] at h3
      exact clOf_sub h1' h2 (by simpa using h3)
    | true =>
      rw [q] at h3
      simp only [if_true] at h3
      obtain ⟨a, ha⟩ := Option.isSome_iff_exists.mp (h1 (n, k) List.mem_cons_self (by simpa using q))
      dsimp only at ha
      rw [ha] at h3
      refine clOf_sub h1' (fun y d hy => ?_) h3
      rw [List.lookup_cons] at hy
      cases z : y == n with
      | true =>
        rw [z] at hy
        cases hy
        rw [eq_of_beq z]
        exact ha
      | false =>
        rw [z] at hy
        exact h2 y d hy
theorem clOf_has {cells : List (Str × Addr)} {x : Str} : ∀ {l : List (Str × NameKind)} {acc : List (Str × Addr)}, ((∃ c, acc.lookup x = some c) ∨ (x, NameKind.free) ∈ l) → ∃ c, (clOf cells l acc).lookup x = some c
  | [], acc, h => by
    rcases h with h | h
    · exact h
    · cases h
  | (n, k) :: r, acc, h => by
    unfold clOf
    cases q : k == NameKind.free with
    | false =>
      simp only [Bool.false_eq_true, if_false]
      refine clOf_has ?_
      rcases h with h | h
      · exact .inl h
      · rcases List.mem_cons.mp h with z | z
        · cases z
          simp at q
        · exact .inr z
    | true =>
      simp only [if_true]
      refine clOf_has ?_
      by_cases z : x = n
      · subst z
        exact .inl ⟨(cells.lookup x).getD 0, by rw [List.lookup_cons]; simp⟩
      · rcases h with ⟨c, h⟩ | h
        · refine .inl ⟨c, ?_⟩
          rw [List.lookup_cons]
          have : (x == n) = false := by simpa using z
          rw [this]
          exact h
        · rcases List.mem_cons.mp h with y | y
          · cases y
            exact absurd rfl z
          · exact .inr y
theorem relabel_lookup {env : Env} {x : Str} {k : NameKind} : ∀ {l : List (Str × NameKind)}, l.lookup x = some k →
    (l.map fun (n, k) => if (k == NameKind.free && env.scope.kind == .function && env.kindOf n == some .cell) then (n, NameKind.cell) else (n, k)).lookup x = some (if (k == NameKind.free && env.scope.kind == .function && env.kindOf x == some .cell) then NameKind.cell else k)
  | [], h => by simp at h
  | (n, j) :: r, h => by
    have ih := @relabel_lookup env x k r
    rw [List.map_cons]
    rw [List.lookup_cons] at h
    cases z : x == n with
    | true =>
      rw [z] at h
      cases h
      have e := eq_of_beq z
      subst e
      by_cases q : (k == NameKind.free && env.scope.kind == .function && env.kindOf x == some .cell) = true
      · simp only [q, if_true, List.lookup_cons, z]
      · simp only [q, if_false, List.lookup_cons, z, Bool.false_eq_true]
    | false =>
      rw [z] at h
      dsimp only
      by_cases q : (j == NameKind.free && env.scope.kind == .function && env.kindOf n == some .cell) = true
      · rw [if_pos q, List.lookup_cons, z]
        exact ih h
      · rw [if_neg q, List.lookup_cons, z]
        exact ih h
theorem ct_clos {X : Cx} {Nc : List Str} {scope : Scope} (own : Nat) (js : List Nat) (hc : ∀ y ∈ scope.names, y.2 ≠ .cell) (hk : scope.kind = .function) (hn : ∀ y ∈ scope.names, y.2 = .local → scope.names.lookup y.1 = some .local) (hl : Nc.length = own + js.length)
    (hf : ∀ y ∈ scope.names, y.2 = .free → X.env.scope.names.lookup y.1 = some .cell) (hX : X.env.scope.kind = .function) (hcell : ∀ x, X.env.scope.names.lookup x = some .cell → ∃ c, X.env.cells.lookup x = some c)
    (hU : ∀ i, i < js.length → ∃ x j, Nc[own + i]? = some x ∧ js[i]? = some j ∧ X.N[j]? = some x ∧ scope.names.lookup x = some .free) : CompTxt X Nc own js scope (clOf X.env.cells scope.names []) := by
  have hs : ∀ y ∈ scope.names, y.2 = .free → (X.env.cells.lookup y.1).isSome = true := fun y hy e => by
    obtain ⟨c, q⟩ := hcell _ (hf y hy e)
    rw [q]
    rfl
  have free_cell : ∀ x, scope.names.lookup x = some .free → X.env.scope.names.lookup x = some .cell := fun x h => hf (x, .free) (PySem.mem_of_lookup h) rfl
  refine ⟨closure_of hs, hk, hc, hn, fun x c h => clOf_sub hs (fun x c z => by simp at z) h, fun x h => ?_, hl, fun i x h => ?_⟩
  · cases q : scope.names.lookup x with
    | none =>
      exfalso
      have : (relabel scope X.env).names.lookup x = none := by
        unfold relabel
        dsimp only
        revert q
        generalize scope.names = l
        induction l with
        | nil => intro _; rfl
        | cons y l ih =>
          obtain ⟨n, k⟩ := y
          intro q
          rw [List.lookup_cons] at q
          cases z : x == n with
          | true => rw [z] at q; cases q
          | false =>
            rw [z] at q
            rw [List.map_cons]
            dsimp only
            by_cases w : (k == NameKind.free && X.env.scope.kind == .function && X.env.kindOf n == some .cell) = true
            · rw [if_pos w, List.lookup_cons, z]
              exact ih q
            · rw [if_neg w, List.lookup_cons, z]
              exact ih q
      rw [this] at h
      rcases h with h | h <;> cases h
    | some k =>
      have r : (relabel scope X.env).names.lookup x = some _ := relabel_lookup (env := X.env) q
      cases k with
      | free => exact clOf_has (.inr (PySem.mem_of_lookup q))
      | cell => exact absurd rfl (hc _ (PySem.mem_of_lookup q))
      | _ =>
        rw [r] at h
        simp at h
  · have hi : i < js.length := by
      have := (List.getElem?_eq_some_iff.mp h).1
      omega
    obtain ⟨y, j, e1, e2, e3, e4⟩ := hU i hi
    rw [h] at e1
    cases e1
    have fc := free_cell x e4
    refine ⟨j, e2, e3, fc, ?_⟩
    have r : (relabel scope X.env).names.lookup x = some _ := relabel_lookup (env := X.env) e4
    rw [r]
    have : X.env.kindOf x = some .cell := fc
    rw [this, hX]
    rfl
end L2
set_option Elab.async false
set_option linter.all false
set_option maxRecDepth 100000
namespace L2
open PySem PySem.Spec PyProof.Rows
theorem ints_of : ∀ {ns : List Int} {us : List Value}, Vals (ns.map V.int) us → IntsAre us ns
  | [], _, h => by cases h; exact .nil
  | n :: ns, _, h => by
    cases h with
    | cons r t =>
      obtain ⟨k, rfl⟩ := (show ∃ t, _ = Value.int n t from r)
      exact .cons n k (ints_of t)
theorem of_ints : ∀ {ns : List Int} {us : List Value}, IntsAre us ns → Vals (ns.map V.int) us
  | _, _, .nil => .nil
  | _, _, .cons n t r => .cons ⟨t, rfl⟩ (of_ints r)
section
variable {X : Cx}
theorem call_sorted : CallR X (.builtin "sorted") (fun xs H Q => ∃ (p : Addr) (ns : List Int), xs = [.ref p] ∧ SqL X.K H p (ns.map V.int) ∧ ns.length < 64 ∧ ∀ (l : Addr) (zs : List Int), H l = none → zs.Perm ns → zs.Pairwise (· ≤ ·) → Q (.ref l) (upd H l (.lst (zs.map V.int)))) := by
  intro pins s σ H xs us Q I r h
  obtain ⟨p, ns, rfl, hp, h64, q⟩ := h
  obtain ⟨u, rfl, ru⟩ := vals1 r
  cases ru
  obtain ⟨its, rv, pl, hz⟩ := I.list hp
  have hi := ints_of rv
  have e1 := IntsAre.length hi
  refine sorted_ints pl.isList hi (by omega) fun out zs a1 a2 a3 => ?_
  obtain ⟨e, he⟩ := sortedAll_at s.heap its out
  have hn : H (s.heap.objs.size + 1) = none := I.hok.fresh (Nat.le_succ _)
  have ln : zs.length = ns.length := a2.length_eq
  refine ⟨.ref (s.heap.objs.size + 1), _, I.laid (a := s.heap.objs.size + 1) (o := .lst (zs.map V.int)) (t' := s.toks) (fun b o e => sortedAll_old e) (Nat.le_succ _) ⟨?_, out.toList, e, of_ints a1, ?_⟩, rfl, q _ zs hn a2 a3⟩
  · rw [List.length_map, ln]
    exact smallE (by omega)
  · exact he
end
section
variable {K : PySem.W.Frag} {T C : Addr} {c0 : Value} {dd : Option Addr} {cd : ClassData} {sl : Array (Option Value)}
end
section
variable {P : Program} {w : World} {K : PySem.W.Frag} {mg : Str → Option Value} {base : Heap}
theorem Fun.okX {x qual : Str} {st : Stmt} {f : Addr} {fd : FuncData} {N ps : List Str} {k : Nat} {sp : Sp} (F : Fun K x qual st f fd) (S : FnScope N ps (defScope st)) (len : ∀ vs H Q E, sp vs H Q E → vs.length = ps.length)
    (hbody : ∀ (cdv : Value) (A : Around) (outer : List Env) (s : Shared) (H : Hp) (vs : List V) (Q : VK) (E : XK), Room k (A.deeper (envOfC qual (defScope st) s.heap.objs.size f cdv)) → sp vs H Q E →
      ∃ t, PSs (cxOf (CXe P w) P w K mg base N qual (defScope st) f cdv A outer s H E) (defBody st) t ∧ t { nx := fun _ H' => Q .non H', rt := Q } (start N vs) H) : FnOk P w K mg base (CXe P w) (k + 1) f fd ps sp := by
  obtain ⟨oc, od, kV, doc, pm, an, cdv, ct, osl, rfl, lk, hcd⟩ := F.ex
  exact fn_of lk hcd S len fun A outer s H vs Q E hr hsp => hbody cdv A outer s H vs Q E hr hsp
end
theorem tRaise_eq {C : Addr} {E : XK} {t : TA} {D : Ends} {σ : St} {H : Hp} : tRaise C E t D σ H = t σ H fun vs H1 => vs.length ≤ sizeLine ∧ E (.ref C) none H1 := rfl
theorem tTry_eq {tb : (St → XK) → TS} {th : TH} {D : Ends} {σ : St} {H : Hp} : tTry tb th D σ H = tb (fun σ' cls od H' => th D σ' cls od H') D σ H := rfl
theorem tHand_eq {K : PySem.W.Frag} {C' : Addr} {i : Nat} {ts : TS} {tr : TH} {D : Ends} {σ : St} {cls : Value} {od : Option Addr} {H : Hp} : tHand K C' i ts tr D σ cls od H = ∃ C b, cls = .ref C ∧ PySem.W.mroIn K C (.ref C') = some b ∧
  if b = true then ∀ ea, H ea = none → ts (D.less i) (σ.set i (some (.ref ea))) (upd H ea (ExO ea cls od)) else tr D σ cls od H := rfl
theorem Same.put {H H' : Hp} {l : Addr} (e : Same H H') (n : H l = none) (o : HO) : Same H (upd H' l o) := fun b u h => by rw [upd_ne (ne_of_none h n)]; exact e b u h
end L2
set_option Elab.async false
set_option linter.all false
set_option maxRecDepth 100000
namespace L2
open PySem PySem.Spec PyProof.Rows
theorem asg_name {M : Model} {A : Around} {E : Value → Shared → Prop} {s : Shared} {env : Env} {x : Str} {px : Pos} {v : Value} {Q : Unit → Shared → Prop} (h : wpAny M A (storeName env x v) Q E s) : wpAny M A (assign (.Name x px) env v) Q E s := by
  show wpAny M A (do standAt px; bindName env x v) Q E s
  exact wpAny_bind (wpAny_standAt (wpAny_bindName h))
section
variable {X : Cx} {Nc : List Str} {own : Nat} {js : List Nat} {scope : Scope} {cl : List (Str × Addr)}
end
end L2
set_option Elab.async false
set_option linter.all false
set_option maxRecDepth 100000
namespace L2
open PySem PySem.Spec PyProof.Rows
end L2
set_option Elab.async false
set_option linter.all false
set_option maxRecDepth 100000
namespace Pb
open L2 PySem
variable {m : Int} {rs : List Road} {r : Int} {par : Int → Int} {dep : Int → Nat}
end Pb
set_option Elab.async false
set_option linter.all false
set_option maxRecDepth 100000
namespace L2
open PySem PySem.Spec PyProof.Rows
def Itv (K : PySem.W.Frag) (a : Addr) (n : Nat) : It :=
  ⟨fun i H => i < n ∧ ∃ xs x, SqL K H a xs ∧ xs[n - 1 - i]? = some x, fun i H x H' => H' = H ∧ ∀ xs, SqL K H a xs → xs[n - 1 - i]? = some x, fun i H => n ≤ i⟩
def iRev (K : PySem.W.Frag) (tl : TE) : TI := fun σ H R => tl σ H fun x H1 => ∃ a xs, x = .ref a ∧ SqL K H1 a xs ∧ R (Itv K a xs.length) H1
section
variable {X : Cx} {tg e : Expr} {te : TE} {p2 pos : Pos}
end
end L2
set_option Elab.async false
set_option linter.all false
set_option maxRecDepth 100000
namespace L2
open PySem PySem.Spec PyProof.Rows
def tListR (te : TE) : TE := fun σ H Q => te σ H fun x H1 => ∃ i, x = .int i ∧ 0 ≤ i ∧ i ≤ 100000 ∧ ∀ l, H1 l = none → Q (.ref l) (upd H1 l (.lst ((Pb.below i.toNat).map V.int)))
section
variable {X : Cx} {e : Expr} {te : TE} {p1 p2 pos pos2 : Pos}
end
end L2
set_option Elab.async false
set_option linter.all false
set_option maxRecDepth 100000
namespace L2
open PySem PySem.Spec PyProof.Rows PySem.W
section
variable {X : Cx}
end
end L2
set_option Elab.async false
set_option linter.all false
set_option maxRecDepth 100000
namespace L2
open PySem PySem.Spec PyProof.Rows
theorem pb_sum : bootBuiltins "sum" = some (.builtin "sum") := by decide +kernel
theorem preSum_take (ns : List Int) : ∀ n, n ≤ ns.length → preSum (fun i => ns.getD i 0) n = (ns.take n).sum
  | 0, _ => by simp [preSum]
  | n + 1, h => by
    have ih := preSum_take ns n (by omega)
    have hn : n < ns.length := by omega
    rw [List.take_succ, List.getElem?_eq_getElem hn, List.sum_append, ← ih]
    simp [preSum, List.getD, hn]
section
variable {X : Cx}
theorem call_sum (hc : X.calm = true) : CallR X (.builtin "sum") (fun xs H Q => ∃ (p : Addr) (ns : List Int), xs = [.ref p] ∧ (SqL X.K H p (ns.map V.int) ∨ SqT X.K H p (ns.map V.int)) ∧ Q (.int ns.sum) H) := by
  intro pins s σ H xs us Q I r h
  obtain ⟨p, ns, rfl, hp, q⟩ := h
  obtain ⟨u, rfl, ru⟩ := vals1 r
  cases ru
  have hh : X.A.in1.handled = none := I.ok.hd hc
  have vals : ∀ {its : List Value}, Vals (ns.map V.int) its → its.length = ns.length ∧ ∀ (i : Nat) (v : Value), its.toArray[i]? = some v → ∃ t, v = Value.int (ns.getD i 0) t := by
    intro its rv
    have hlen : its.length = ns.length := by rw [← rv.length, List.length_map]
    refine ⟨hlen, fun i v hP => ?_⟩
    have hi : its[i]? = some v := by simpa using hP
    have hib : i < ns.length := by rw [← hlen]; exact (List.getElem?_eq_some_iff.mp hi).1
    obtain ⟨u, hu, ru⟩ := rv.get (i := i) (x := V.int ns[i]) (by rw [List.getElem?_map, List.getElem?_eq_getElem hib]; rfl)
    rw [hi] at hu; cases hu
    obtain ⟨t, e⟩ := (show ∃ t, v = Value.int ns[i] t from ru)
    exact ⟨t, by rw [e]; simp [List.getD, hib]⟩
  have fin : ∀ {n : Nat}, n = ns.length → preSum (fun i => ns.getD i 0) n = ns.sum := fun {n} e => by rw [preSum_take ns n (by omega), List.take_of_length_le (by omega)]
  rcases hp with hp | hp
  · obtain ⟨its, rv, pl, hz⟩ := I.list hp
    obtain ⟨hlen, hv⟩ := vals rv
    have hl := pl.isList
    have hlt := pl.lt
    refine call_sum_walkG (wpAny_pyIter_list hl ?_)
    refine ⟨s.heap.objs.size, [s.heap.objs.size, p], [s.heap.objs.size], its.toArray.size, _, _, fun i => ns.getD i 0, rfl, Walks.list (A := X.A.in1) hh _ p (Nat.ne_of_lt hlt) its.toArray,
      ⟨⟨_, Heap.get?_push_size _ rfl, rfl, rfl⟩, hl.push _⟩, fun b hb => ?_, fun i v hP => hv i v hP, fun h' tk t' hk => ?_⟩
    · simp only [Heap.push, Array.size_push]
      rcases List.mem_cons.mp hb with e | e
      · rw [e]; exact Nat.lt_succ_self _
      · rw [List.mem_singleton.mp e]; exact Nat.lt_succ_of_lt hlt
    · have kk : ∀ b o, s.heap.get? b = some o → h'.get? b = some o := fun b o eb => hk b o (fun hm => by rw [List.mem_singleton.mp hm] at eb; exact Nat.lt_irrefl _ (Heap.lt_size eb)) (Heap.get?_push_of_some _ eb)
      rw [fin (by rw [List.size_toArray, hlen])]
      exact ⟨.int _, H, I.kept (t' := tk) kk, ⟨t', rfl⟩, q⟩
  · obtain ⟨its, rv, pl, hz⟩ := I.tuple hp
    obtain ⟨hlen, hv⟩ := vals rv
    have hl : s.heap.IsTuple p its.toArray := pl
    have hlt : p < s.heap.objs.size := by
      obtain ⟨o, e, _⟩ := id hl
      exact Heap.lt_size e
    refine call_sum_walkG (wpAny_pyIter_tuple hl ?_)
    refine ⟨s.heap.objs.size, [s.heap.objs.size, p], [s.heap.objs.size], its.toArray.size, _, _, fun i => ns.getD i 0, rfl, Walks.tuple (A := X.A.in1) hh _ p (Nat.ne_of_lt hlt) its.toArray,
      ⟨⟨_, Heap.get?_push_size _ rfl, rfl, rfl⟩, hl.push _⟩, fun b hb => ?_, fun i v hP => hv i v hP, fun h' tk t' hk => ?_⟩
    · simp only [Heap.push, Array.size_push]
      rcases List.mem_cons.mp hb with e | e
      · rw [e]; exact Nat.lt_succ_self _
      · rw [List.mem_singleton.mp e]; exact Nat.lt_succ_of_lt hlt
    · have kk : ∀ b o, s.heap.get? b = some o → h'.get? b = some o := fun b o eb => hk b o (fun hm => by rw [List.mem_singleton.mp hm] at eb; exact Nat.lt_irrefl _ (Heap.lt_size eb)) (Heap.get?_push_of_some _ eb)
      rw [fin (by rw [List.size_toArray, hlen])]
      exact ⟨.int _, H, I.kept (t' := tk) kk, ⟨t', rfl⟩, q⟩
end
theorem setR {H : Hp} {l : Addr} {xs : List V} {i : Int} {v : V} {Q : Hp → Prop} (h : H l = some (.lst xs)) (i0 : 0 ≤ i) (i1 : i < xs.length) (q : Q (upd H l (.lst (xs.set i.toNat v)))) : rSetL (.ref l) (.int i) v H Q :=
  ⟨l, xs, i, i.toNat, rfl, rfl, h, by unfold ixN; rw [if_pos i0, if_pos (by omega)], q⟩
end L2
set_option Elab.async false
set_option linter.all false
set_option maxRecDepth 100000
namespace Pb
open L2
section
variable {m : Int} {rs : List Road} {r : Int} {par : Int → Int} {dep : Int → Nat}
variable {held : Int → Int} {con : Int → Int → Int}
end
end Pb
set_option Elab.async false
set_option linter.all false
set_option maxRecDepth 100000
namespace Pb
open L2
section
variable {m : Int} {rs : List Road} {r : Int} {par : Int → Int} {dep : Int → Nat} {held : Int → Int}
end
section
open PySem
end
end Pb
set_option Elab.async false
set_option linter.all false
set_option maxRecDepth 100000
namespace L2
open PySem PySem.Spec PyProof.Rows
end L2
set_option Elab.async false
set_option linter.all false
set_option maxRecDepth 100000
namespace L2
open PySem PySem.Spec PyProof.Rows
def Itrs (lo st : Int) (n : Nat) : It := ⟨fun i _ => i < n, fun i H x H' => H' = H ∧ x = .int (lo + i * st), fun i _ => n ≤ i⟩
def iRng3 (ta : TA) : TI := fun σ H R => ta σ H fun vs H1 => ∃ i j c : Int, vs = [.int i, .int j, .int c] ∧ (0 ≤ i ∧ i ≤ 1000000 ∧ 0 ≤ j ∧ j ≤ 1000000 ∧ 0 < c ∧ c ≤ 1000000) ∧ R (Itrs i c (Builtin.Range.rangeSize i j c).toNat) H1
section
variable {X : Cx} {tg : Expr}
end
end L2
set_option Elab.async false
set_option linter.all false
set_option maxRecDepth 100000
namespace L2
open PySem PySem.Spec PyProof.Rows
theorem ixTS {K : PySem.W.Frag} {H : Hp} {p : Addr} {xs : List V} {i : Int} {v : V} {Q : VK} (h : SqT K H p xs) (e : atI xs i = some v) (q : Q v H) : rIxT K (.ref p) (.int i) H Q := ⟨p, xs, i, v, rfl, rfl, h, e, q⟩
end L2
namespace Pb
open L2 PySem
section
variable {m : Int} {rs : List Road} {r : Int} {par : Int → Int} {dep : Int → Nat}
end
end Pb
set_option Elab.async false
set_option linter.all false
set_option maxRecDepth 100000
namespace L2
open PySem PySem.Spec PyProof.Rows
section
variable {P : Program} {w : World} {A : Around} {E : Value → Shared → Prop} {s : Shared} {l : Addr} {ob : Obj} {src : Heap → Array Value → Prop} {at' : Addr → Nat → Heap → Prop}
end
def Ite (K : PySem.W.Frag) (c : Bool) (a : Addr) : It :=
  ⟨fun i H => ∃ xs x, SqX K c H a xs ∧ xs[i]? = some x,
   fun i H v H' => ∃ p x, H p = none ∧ v = .ref p ∧ H' = upd H p (.tup [.int i, x]) ∧ ∀ xs, SqX K c H a xs → xs[i]? = some x,
   fun i H => ∃ xs, SqX K c H a xs ∧ xs.length = i⟩
def iEnum (K : PySem.W.Frag) (c : Bool) (tl : TE) : TI := fun σ H R => tl σ H fun x H1 => ∃ a, x = .ref a ∧ (∃ xs, SqX K c H1 a xs) ∧ R (Ite K c a) H1
section
variable {X : Cx} {e : Expr} {te : TE} {p2 pos : Pos}
end
end L2
set_option Elab.async false
set_option linter.all false
set_option maxRecDepth 100000
namespace Pb
open L2 PySem
theorem pr_snoc {α β : Type} {R : α → β → Prop} {a : α} {b : β} (h : R a b) : ∀ {l₁ : List α} {l₂ : List β}, Paired R l₁ l₂ → Paired R (l₁ ++ [a]) (l₂ ++ [b])
  | _, _, .nil => .cons h .nil
  | _, _, .cons x xs => .cons x (pr_snoc h xs)
theorem pr_get {α β : Type} {R : α → β → Prop} : ∀ {ps : List α} {vs : List β} {i : Nat} {x : α}, Paired R ps vs → ps[i]? = some x → ∃ v, vs[i]? = some v ∧ R x v
  | _, _, i, x, .nil, e => by simp at e
  | _, _, 0, x, .cons (a := p) (b := r) h hs, e => by
    have : p = x := by simpa using e
    subst this
    exact ⟨r, by simp, h⟩
  | a :: l1, _, i + 1, x, .cons h hs, e => by
    have e' : l1[i]? = some x := by simpa using e
    obtain ⟨v, h1, h2⟩ := pr_get hs e'
    exact ⟨v, by simpa using h1, h2⟩
def tollD (rs : List Road) (a b : Int) : Int := (tollOf rs a b).getD 1
theorem toll_rng {m : Int} {rs : List Road} (g : Good m rs) {a b : Int} (h : Adj rs a b) : ∃ k, tollOf rs a b = some k ∧ 2 ≤ k ∧ k ≤ 1000000 := by
  obtain ⟨x, hx, j⟩ := h
  obtain ⟨i, hi⟩ := List.getElem?_of_mem hx
  have ok := g.ok x hx
  have jj : Joins x a b := j
  rw [tollOf_at g hi jj]
  unfold toll1
  by_cases c : x.a = a ∧ x.b = b
  · rw [if_pos c]
    exact ⟨_, rfl, ok.t0, ok.t1⟩
  · rw [if_neg c]
    have c2 : x.a = b ∧ x.b = a := by
      rcases jj with w | w
      · exact absurd w c
      · exact ⟨w.2, w.1⟩
    rw [if_pos c2]
    exact ⟨_, rfl, ok.u0, ok.u1⟩
end Pb
namespace L2
open PySem PySem.Spec PyProof.Rows
def tPar3 (i j k : Nat) (ta : TA) : TS := fun D σ H => ta σ H fun vs H1 => ∃ v w z, vs = [v, w, z] ∧ D.nx (((σ.set i (some v)).set j (some w)).set k (some z)) H1
end L2
set_option Elab.async false
set_option linter.all false
set_option maxRecDepth 100000
namespace Pb
open L2
section
variable {m : Int} {rs : List Road} {r : Int} {par : Int → Int} {dep : Int → Nat} {held held' : Int → Int} {con : Int → Int → Int}
end
end Pb
set_option Elab.async false
set_option linter.all false
set_option maxRecDepth 100000
namespace L2
open PySem PySem.Spec PyProof.Rows
end L2
namespace Pb
open L2 PySem
end Pb
set_option Elab.async false
set_option linter.all false
set_option maxRecDepth 100000
namespace Pb
open L2 PySem
section
variable {m : Int} {rs : List Road}
end
def AtX (c : Bool) (H : Hp) (a : Addr) (xs : List V) : Prop := H a = some (if c then .lst xs else .tup xs)
theorem AtX.sq {K : PySem.W.Frag} {c : Bool} {H : Hp} {a : Addr} {xs : List V} (h : AtX c H a xs) : SqX K c H a xs := by
  cases c
  · exact SqT.of h
  · exact SqL.of h
end Pb
set_option Elab.async false
set_option linter.all false
set_option maxRecDepth 100000
namespace L2
open PySem PySem.Spec PyProof.Rows
section
variable {X : Cx} {i o : Expr} {ty td : TE}
def tDInN (ty td : TE) : TE := fun σ H Q => ty σ H fun y H1 => td σ H1 fun x H2 => ∃ a, x = .ref a ∧ ((∃ o, DGet H2 a y o ∧ Q (.bl o.isSome) H2) ∨ (y = .non ∧ (∃ kvs, H2 a = some (.dK kvs)) ∧ Q (.bl false) H2))
end
end L2
set_option Elab.async false
set_option linter.all false
set_option maxRecDepth 100000
namespace Pb
open L2 PySem
section
variable {m : Int} {rs : List Road} {r b : Int} {par : Int → Int} {dep : Int → Nat}
end
end Pb
namespace L2
theorem cutS {A B : TS} {D : Ends} {σ : St} {H : Hp} (h : ∀ N : St → Hp → Prop, (∀ σ' H', B D σ' H' → N σ' H') → A { D with nx := N } σ H) : tSeq A B D σ H := h (B D) fun _ _ z => z
end L2
set_option Elab.async false
set_option linter.all false
set_option maxRecDepth 100000
namespace L2
open PySem
theorem for_listH {K : PySem.W.Frag} {a : Addr} {xs : List V} {g : TG} {tb : TS} {D : Ends} {σ : St} {H : Hp} (Pv : Nat → St → Hp → Prop) (h0 : Pv 0 σ H) (hl : ∀ i σ H, i ≤ xs.length → Pv i σ H → SqL K H a xs)
    (hs : ∀ (i : Nat) (x : V) (σ : St) (H : Hp) (N B : St → Hp → Prop), (∀ σ H, (g x σ H fun σ2 H2 => tb { D with nx := N, ct := N, bk := D.nx } σ2 H2) → B σ H) → (∀ σ' H', Pv (i + 1) σ' H' → N σ' H') → xs[i]? = some x → Pv i σ H → B σ H)
    (hd : ∀ (B : St → Hp → Prop) σ H, (∀ σ H, D.nx σ H → B σ H) → Pv xs.length σ H → B σ H) : ForGo (Itl K a) D g tb σ H :=
  for_listN Pv h0 hl (fun i x σ H N hN hx p => hs i x σ H N (fun σ H => g x σ H fun σ2 H2 => tb { D with nx := N, ct := N, bk := D.nx } σ2 H2) (fun _ _ z => z) hN hx p) fun σ H p => hd (fun σ H => D.nx σ H) σ H (fun _ _ z => z) p
theorem for_rangeH {lo : Int} {n : Nat} {g : TG} {tb : TS} {D : Ends} {σ : St} {H : Hp} (Pv : Nat → St → Hp → Prop) (h0 : Pv 0 σ H)
    (hs : ∀ (i : Nat) (σ : St) (H : Hp) (N B : St → Hp → Prop), (∀ σ H, (g (.int (lo + i)) σ H fun σ2 H2 => tb { D with nx := N, ct := N, bk := D.nx } σ2 H2) → B σ H) → (∀ σ' H', Pv (i + 1) σ' H' → N σ' H') → i < n → Pv i σ H → B σ H)
    (hd : ∀ (B : St → Hp → Prop) σ H, (∀ σ H, D.nx σ H → B σ H) → Pv n σ H → B σ H) : ForGo (Itr lo n) D g tb σ H :=
  for_rangeN Pv h0 (fun i σ H N hN hi p => hs i σ H N (fun σ H => g (.int (lo + i)) σ H fun σ2 H2 => tb { D with nx := N, ct := N, bk := D.nx } σ2 H2) (fun _ _ z => z) hN hi p) fun σ H p => hd (fun σ H => D.nx σ H) σ H (fun _ _ z => z) p
theorem while_H {c : TT} {tb : TS} {D : Ends} {σ : St} {H : Hp} (W : Nat → St → Hp → Prop) (n0 : Nat) (h0 : W n0 σ H)
    (hs : ∀ (n : Nat) (σ : St) (H : Hp) (N : St → Hp → Prop) (B : Nat → St → Hp → Prop), (∀ n σ H, (c σ H fun b H1 => if b = true then ∃ N : St → Hp → Prop, (∀ σ' H', N σ' H' → ∃ m', m' < n ∧ W m' σ' H') ∧ tb { D with nx := N, ct := N, bk := D.nx } σ H1 else D.nx σ H1) → B n σ H) → (∀ n' σ' H', n' < n → W n' σ' H' → N σ' H') → (∀ σ' H', N σ' H' → ∃ m', m' < n ∧ W m' σ' H') → W n σ H → B n σ H) : tWhile c tb D σ H :=
  while_n W n0 h0 fun n σ H N hN hN2 w => hs n σ H N (fun n σ H => c σ H fun b H1 => if b = true then ∃ N : St → Hp → Prop, (∀ σ' H', N σ' H' → ∃ m', m' < n ∧ W m' σ' H') ∧ tb { D with nx := N, ct := N, bk := D.nx } σ H1 else D.nx σ H1) (fun _ _ _ z => z) hN hN2 w
end L2
set_option Elab.async false
set_option linter.all false
set_option maxRecDepth 100000
namespace Pb
open L2 PySem
section
variable {m : Int} {rs : List Road} {r : Int} {par : Int → Int} {dep : Int → Nat}
variable {para parb parc : Int → Int} {depa depb depc : Int → Nat} {a b c : Int}
end
section
variable {m : Int} {rs : List Road} {r b : Int} {par : Int → Int} {dep : Int → Nat}
end
end Pb
set_option Elab.async false
set_option linter.all false
set_option maxRecDepth 100000
namespace Pb
open L2 PySem
section
variable {m : Int} {rs : List Road} {r b : Int} {par : Int → Int} {dep : Int → Nat}
end
end Pb
set_option Elab.async false
set_option linter.all false
namespace L2
open PySem
def CDivL (_ j : Int) : Prop := 0 < j ∧ j.natAbs.log2 < 9000
theorem op_fdivL {X : Cx} : OpR X (binaryOp .FloorDiv) (rI CDivL fun i j => .int (i / j)) := opI fun i j _ _ _ _ _ hc q => by
  have h1 : (0 : Int) < j := hc.1
  exact PyProof.Rows.floordiv_int (by omega) (by rw [Int.fdiv_eq_ediv_of_nonneg i (by omega)]; exact q) (.inl (PyProof.noPylong_of_log2 hc.2))
end L2
namespace Pb
open PySem L2
end Pb
set_option Elab.async false
set_option linter.all false
set_option maxRecDepth 100000
set_option exponentiation.threshold 5000
namespace Pb
open L2 PySem
section
variable {m : Int} {rs : List Road} {r : Int} {par : Int → Int} {dep : Int → Nat}
variable {op : Int → Int → Int} {held : Int → Int} {con : Int → Int → Int}
end
end Pb
set_option Elab.async false
set_option linter.all false
set_option maxRecDepth 100000
namespace L2
open PySem PySem.Spec PyProof.Rows
section
variable {X : Cx}
end
end L2
namespace Pb
end Pb
set_option Elab.async false
set_option linter.all false
set_option maxRecDepth 100000
namespace L2
open PySem PySem.Spec PyProof.Rows
section
variable {X : Cx}
end
end L2
set_option Elab.async false
set_option linter.all false
set_option maxRecDepth 100000
namespace L2
open PySem PySem.Spec PyProof.Rows
section
variable {P : Program} {w : World} {A : Around} {R : Result → Shared → Prop} {I S : Addr} {fp wr : List Addr} {n : Nat} {Pv : Nat → Value → Prop} {St : Nat → Heap → Prop} {bt : Nat → Nat → Bool} {kw : List (Str × Value)}
end
section
variable {X : Cx} {x : Str} {p pos kpos : Pos} {e de : Expr} {t tk : TA}
def tMinD (K : PySem.W.Frag) (t tk : TA) : TE := fun σ H Q => t σ H fun vs H1 => tk σ H1 fun zs H2 => ∃ (q : Addr) (ns : List Int) (d : V), vs = [.ref q] ∧ zs = [d] ∧ SqL K H2 q (ns.map V.int) ∧ ns ≠ [] ∧ ∀ y, y ∈ ns → (∀ x ∈ ns, y ≤ x) → Q (.int y) H2
def tNotT (t : TE) : TE := fun σ H Q => t σ H fun x H1 => ∃ b, x = .bl b ∧ Q (.bl (b != true)) H1
end
end L2
set_option Elab.async false
set_option linter.all false
set_option maxRecDepth 100000
namespace Pb
open L2 PySem
section
variable {m : Int} {rs : List Road} {r : Int} {par : Int → Int} {dep : Int → Nat}
variable {ch : Int → Option Int} {w : Int} {cn : Int → Int}
end
end Pb
set_option Elab.async false
set_option linter.all false
set_option maxRecDepth 100000
namespace L2
open PySem PySem.Spec PyProof.Rows PySem.W
section
variable {n : Nat}
variable (hn : 0 < n)
include hn
end
section
variable {prog : Program} {w : World} {A : Around} {E : Value → Shared → Prop} {s : Shared}
end
end L2
set_option Elab.async false
set_option linter.all false
set_option maxRecDepth 100000
namespace L2
open PySem PySem.Spec PyProof.Rows PySem.W Pb
section
variable {prog : Program} {w : World} {A : Around} {E : Value → Shared → Prop} {s : Shared} {it d : Addr} {i ep : Nat} {es : Array DictEntry}
end
section
variable {prog : Program} {w : World} {A : Around} {E : Value → Shared → Prop} {s : Shared} {fin : Bool} {C : Bool → Shared → Prop}
end
section
variable {prog : Program} {w : World} {A : Around} {E : Value → Shared → Prop} {s : Shared}
end
section
variable {X : Cx}
end
end L2
set_option Elab.async false
set_option linter.all false
set_option maxRecDepth 100000
namespace L2
theorem mem_putK {κ : Type} [DecidableEq κ] {kvs : List (κ × V)} {k : κ} {v : V} {p : κ × V} (h : p ∈ putK kvs k v) : p.1 = k ∨ ∃ q ∈ kvs, p.1 = q.1 := by
  unfold putK at h
  split at h
  · obtain ⟨q, hq, e⟩ := List.mem_map.mp h
    refine .inr ⟨q, hq, ?_⟩
    rw [← e]
    split <;> rfl
  · rcases List.mem_append.mp h with h | h
    · exact .inr ⟨p, h, rfl⟩
    · rw [List.mem_singleton.mp h]; exact .inl rfl
end L2
namespace Pb
open L2 PySem
section
variable {m : Int} {rs : List Road} {r : Int} {par : Int → Int} {dep : Int → Nat}
end
section
end
end Pb
set_option Elab.async false
set_option linter.all false
set_option maxRecDepth 100000
namespace L2
open PySem PySem.Spec PyProof.Rows
def tDispT (tk tv : TE) : TE := fun σ H Q => ∀ p, H p = none → tPairs [(tk, tv)] σ (upd H p (.dT [])) fun ps H2 => H2 p = some (.dT []) ∧ ∃ (k : List Key) (b : Addr) (y : V), ps = [(.ref b, y)] ∧ H2 b = some (.tup (k.map kV)) ∧ Q (.ref p) (upd H2 p (.dT [(k, y)]))
end L2
set_option Elab.async false
set_option linter.all false
set_option maxRecDepth 100000
namespace Pb
open L2 PySem
end Pb
namespace Pb
open L2 PySem
section
variable {m : Int} {rs : List Road} {xs : List Int}
variable {r : Int} {par : Int → Int} {dep : Int → Nat}
end
end Pb
set_option Elab.async false
set_option linter.all false
set_option maxRecDepth 100000
namespace L2
open PySem PySem.Spec PyProof.Rows Pb
section
variable {X : Cx}
end
end L2
set_option Elab.async false
set_option linter.all false
set_option maxRecDepth 100000
namespace L2
open PySem PySem.Spec PyProof.Rows
theorem pb_abs : bootBuiltins "abs" = some (.builtin "abs") := by decide +kernel
def CDivLN (_ j : Int) : Prop := j ≠ 0 ∧ j.natAbs.log2 < 9000
theorem op_fdivLN {X : Cx} : OpR X (binaryOp .FloorDiv) (rI CDivLN fun i j => .int (i.fdiv j)) := opI fun i j _ _ _ _ _ hc q => PyProof.Rows.floordiv_int hc.1 q (.inl (PyProof.noPylong_of_log2 hc.2))
theorem log_bits {j : Int} {n : Nat} (h0 : j ≠ 0) (h : j.natAbs < 2 ^ n) (hn : n ≤ 9000) : j.natAbs.log2 < 9000 := Nat.lt_of_lt_of_le ((Nat.log2_lt (by omega)).mpr h) hn
end L2
namespace Pb
theorem gcd_fm (a b : Int) : Int.gcd b (a.fmod b) = Int.gcd a b := by
  rw [Int.fmod_def, Int.gcd_sub_mul_left_right, Int.gcd_comm]
theorem gcd_em (a b : Int) : Int.gcd b (a % b) = Int.gcd a b := by
  rw [Int.emod_def, Int.gcd_sub_mul_left_right, Int.gcd_comm]
theorem fmod_less {a b : Int} (h : b ≠ 0) : (a.fmod b).natAbs < b.natAbs := by
  have h1 := Int.emod_nonneg a h
  have h2 := Int.emod_lt a h
  rw [Int.fmod_eq_emod]
  split
  · omega
  · rename_i z
    have : a % b ≠ 0 := fun e => z (.inr (Int.dvd_of_emod_eq_zero e))
    omega
structure Frc (t b p q : Int) : Prop where
  pos : 0 < q
  one : p.gcd q = 1
  eq : p * b = t * q
theorem frc_of {t b c : Int} (h : b ≠ 0) (hc : c.natAbs = t.gcd b) (hs : 0 < c ↔ 0 < b) : Frc t b (t.fdiv c) (b.fdiv c) := by
  have gp := Int.gcd_pos_of_ne_zero_right t h
  have c0 : c ≠ 0 := by omega
  obtain ⟨x, hx⟩ : c ∣ t := Int.natAbs_dvd.mp (by rw [hc]; exact Int.gcd_dvd_left ..)
  obtain ⟨y, hy⟩ : c ∣ b := Int.natAbs_dvd.mp (by rw [hc]; exact Int.gcd_dvd_right ..)
  have e : c.natAbs * x.gcd y = c.natAbs * 1 := by rw [← Int.gcd_mul_left, ← hx, ← hy, ← hc, Nat.mul_one]
  subst hx hy
  rw [Int.mul_fdiv_cancel_left _ c0, Int.mul_fdiv_cancel_left _ c0]
  refine ⟨?_, Nat.eq_of_mul_eq_mul_left (by omega) e, ?_⟩
  · rcases Int.lt_or_gt_of_ne c0 with z | z
    · have : c * y ≤ 0 := by omega
      rcases Int.lt_trichotomy y 0 with w | w | w
      · have := Int.mul_pos_of_neg_of_neg z w; omega
      · subst w; simp at h
      · exact w
    · exact Int.pos_of_mul_pos_right (hs.mp z) z
  · rw [Int.mul_left_comm, Int.mul_assoc]
theorem cop_dvd {p q p' q' : Int} (one : p.gcd q = 1) (e : p * q' = p' * q) : q.natAbs ∣ q'.natAbs := by
  have h : Nat.Coprime q.natAbs p.natAbs := by
    show Nat.gcd _ _ = 1
    rw [Nat.gcd_comm]
    exact one
  refine h.dvd_of_dvd_mul_left (m := p.natAbs) ?_
  rw [← Int.natAbs_mul, e, Int.natAbs_mul]
  exact Nat.dvd_mul_left ..
theorem frc_eq {p q p' q' : Int} (h0 : 0 < q) (h1 : p.gcd q = 1) (h0' : 0 < q') (h1' : p'.gcd q' = 1) (e : p * q' = p' * q) : p = p' ∧ q = q' := by
  have d1 := cop_dvd h1 e
  have d2 := cop_dvd h1' e.symm
  have := Nat.dvd_antisymm d1 d2
  have e2 : q = q' := by omega
  subst e2
  exact ⟨Int.eq_of_mul_eq_mul_right (Int.ne_of_gt h0) e, rfl⟩
theorem abs_eq (i : Int) : (if i < 0 then -i else i) = (i.natAbs : Int) := by split <;> omega
theorem frc_bd {t b p q : Int} (h : Frc t b p q) (b0 : b ≠ 0) : p.natAbs ≤ t.natAbs ∧ q.natAbs ≤ b.natAbs := by
  refine ⟨?_, Nat.le_of_dvd (by omega) (cop_dvd h.one h.eq)⟩
  by_cases c : t = 0
  · have e := h.eq
    rw [c, Int.zero_mul] at e
    rcases Int.mul_eq_zero.mp e with z | z
    · rw [z]; exact Nat.zero_le _
    · exact absurd z b0
  · refine Nat.le_of_dvd (by omega) ?_
    refine cop_dvd (p := q) (p' := b) (by rw [Int.gcd_comm]; exact h.one) ?_
    rw [Int.mul_comm, ← h.eq, Int.mul_comm]
theorem frc_tr {t b t' b' p q : Int} (h : Frc t b p q) (e : t * b' = t' * b) (b0 : b ≠ 0) : Frc t' b' p q := by
  refine ⟨h.pos, h.one, Int.eq_of_mul_eq_mul_right b0 ?_⟩
  calc (p * b') * b = (p * b) * b' := by ac_rfl
    _ = (t * b') * q := by rw [h.eq]; ac_rfl
    _ = (t' * q) * b := by rw [e]; ac_rfl
theorem gcd_abs (t b : Int) : Int.gcd (t.natAbs : Int) b = t.gcd b := by
  unfold Int.gcd
  rw [Int.natAbs_natCast]
def mulL (fs : List (Int × Int)) (tb : Int × Int) : Int × Int := fs.foldl (fun z f => (z.1 * f.2 + f.1 * z.2, z.2 * f.2)) tb
theorem mulL_sum {B : Int} : ∀ {fs : List (Int × Int)} {S : Int} {tb : Int × Int}, (∀ f ∈ fs, f.2 ∣ B) → S * tb.2 = tb.1 * B → (S + (fs.map fun f => f.1 * (B / f.2)).sum) * (mulL fs tb).2 = (mulL fs tb).1 * B
  | [], S, tb, _, e => by
    show (S + 0) * tb.2 = tb.1 * B
    rw [Int.add_zero]
    exact e
  | f :: fs, S, tb, h, e => by
    have ih := mulL_sum (fs := fs) (S := S + f.1 * (B / f.2)) (tb := (tb.1 * f.2 + f.1 * tb.2, tb.2 * f.2)) (fun g hg => h g (.tail _ hg)) (by
      show (S + f.1 * (B / f.2)) * (tb.2 * f.2) = (tb.1 * f.2 + f.1 * tb.2) * B
      have d : B / f.2 * f.2 = B := Int.ediv_mul_cancel (h f (.head _))
      calc (S + f.1 * (B / f.2)) * (tb.2 * f.2) = (S * tb.2) * f.2 + f.1 * tb.2 * (B / f.2 * f.2) := by rw [Int.add_mul]; congr 1 <;> ac_rfl
        _ = (tb.1 * f.2 + f.1 * tb.2) * B := by rw [e, d, Int.add_mul]; congr 1; ac_rfl)
    rw [List.map_cons, List.sum_cons, ← Int.add_assoc]
    exact ih
theorem mulL_pos : ∀ {fs : List (Int × Int)} {tb : Int × Int}, (∀ f ∈ fs, 0 < f.2) → 0 < tb.2 → 0 < (mulL fs tb).2
  | [], _, _, h => h
  | f :: fs, tb, h, h2 => mulL_pos (fs := fs) (tb := (tb.1 * f.2 + f.1 * tb.2, tb.2 * f.2)) (fun g hg => h g (.tail _ hg)) (Int.mul_pos h2 (h f (.head _)))
theorem lcm_step {b q : Int} (b0 : 0 < b) (q0 : 0 < q) : 0 < b * (q / (b.gcd q : Int)) ∧ q ∣ b * (q / (b.gcd q : Int)) := by
  obtain ⟨x, hx⟩ := Int.gcd_dvd_left b q
  obtain ⟨y, hy⟩ := Int.gcd_dvd_right b q
  have gp : (0 : Int) < b.gcd q := by have := Int.gcd_pos_of_ne_zero_right b (Int.ne_of_gt q0); omega
  have e : q / (b.gcd q : Int) = y := by
    conv => lhs; arg 1; rw [hy]
    exact Int.mul_ediv_cancel_left _ (Int.ne_of_gt gp)
  rw [e]
  have yp : 0 < y := Int.pos_of_mul_pos_right (by rw [← hy]; exact q0) gp
  refine ⟨Int.mul_pos b0 yp, x, ?_⟩
  calc b * y = (b.gcd q * x) * y := by rw [← hx]
    _ = (b.gcd q * y) * x := by ac_rfl
    _ = q * x := by rw [← hy]
end Pb
namespace L2
open PySem Pb
abbrev FrsAt (H : Hp) : List Addr → List (Int × Int) → Prop := Paired fun q f => H q = some (.tup [.int f.1, .int f.2])
theorem FrsAt.same {H H' : Hp} {qs : List Addr} {fs : List (Int × Int)} (e : Same H H') (h : FrsAt H qs fs) : FrsAt H' qs fs := Paired.imp' (fun q v x => e q _ x) h
def FrB (n : Nat) (f : Int × Int) : Prop := 0 < f.2 ∧ f.1.natAbs < 2 ^ n ∧ f.2.natAbs < 2 ^ n
def dFr (f : Int × Int) : PyData := .tuple [.int f.1, .int f.2]
theorem deep_fr {K : PySem.W.Frag} {H : Hp} {q : Addr} {f : Int × Int} (h : H q = some (.tup [.int f.1, .int f.2])) : Deep K H (.ref q) (dFr f) := .tup (SqT.of h) (.cons (.int _) (.cons (.int _) .nil))
theorem deep_frs {K : PySem.W.Frag} {H : Hp} : ∀ {qs : List Addr} {fs : List (Int × Int)}, FrsAt H qs fs → DeepAll K H (qs.map V.ref) (fs.map dFr)
  | _, _, .nil => .nil
  | _, _, .cons x xs => .cons (deep_fr x) (deep_frs xs)
theorem eqv_fr (f : Int × Int) : PyData.eqv (dFr f) (dFr f) = true := by simp [dFr, PyData.eqv, PyData.eqvAll]
theorem eqv_frs : ∀ fs : List (Int × Int), PyData.eqvAll (fs.map dFr) (fs.map dFr) = true
  | [] => by simp [PyData.eqvAll]
  | f :: fs => by
    have h1 := eqv_fr f
    have h2 := eqv_frs fs
    rw [List.map_cons]
    simp only [PyData.eqvAll, h1, h2, Bool.and_self]
theorem depth_frs : ∀ fs : List (Int × Int), PyData.depthAll (fs.map dFr) ≤ 1
  | [] => by simp [PyData.depthAll]
  | f :: fs => by
    have h2 := depth_frs fs
    rw [List.map_cons]
    simp only [PyData.depthAll, dFr, PyData.depth]
    simp
    omega
end L2
namespace L2
open PySem
end L2
namespace L2
open PySem
end L2
namespace L2
open PySem PySem.Spec PyProof.Rows Pb
theorem mulL_bits {n : Nat} : ∀ {fs : List (Int × Int)} {tb : Int × Int} {b : Nat}, (∀ f ∈ fs, FrB n f) → tb.1.natAbs < 2 ^ b → tb.2.natAbs < 2 ^ b → (mulL fs tb).1.natAbs < 2 ^ (b + fs.length * (n + 1)) ∧ (mulL fs tb).2.natAbs < 2 ^ (b + fs.length * (n + 1))
  | [], tb, b, _, h1, h2 => by
    rw [List.length_nil, Nat.zero_mul, Nat.add_zero]
    exact ⟨h1, h2⟩
  | f :: fs, tb, b, h, h1, h2 => by
    obtain ⟨f0, fb1, fb2⟩ := h f (.head _)
    have a1 : (tb.1 * f.2 + f.1 * tb.2).natAbs < 2 ^ (b + n + 1) := add_bits (mul_bits h1 fb2) (by rw [Int.mul_comm]; exact mul_bits h2 fb1)
    have a2 : (tb.2 * f.2).natAbs < 2 ^ (b + n + 1) := up_bits (mul_bits h2 fb2) (by omega)
    have ih := mulL_bits (fs := fs) (tb := (tb.1 * f.2 + f.1 * tb.2, tb.2 * f.2)) (b := b + n + 1) (fun g hg => h g (.tail _ hg)) a1 a2
    rw [List.length_cons, show b + (fs.length + 1) * (n + 1) = b + n + 1 + fs.length * (n + 1) by rw [Nat.succ_mul]; omega]
    exact ih
end L2
namespace L2
open PySem
abbrev FrsK (K : PySem.W.Frag) (H : Hp) : List Addr → List (Int × Int) → Prop := Paired fun q f => SqT K H q [.int f.1, .int f.2]
theorem FrsAt.k {K : PySem.W.Frag} {H : Hp} {qs : List Addr} {fs : List (Int × Int)} (h : FrsAt H qs fs) : FrsK K H qs fs := Paired.imp' (fun q v x => SqT.of x) h
def TupK (K : PySem.W.Frag) (a : Addr) (xs : List V) : Prop := ∃ (o : Obj) (its : Array Value) (n : Nat), K.lookup a = some o ∧ o.cls = .type "tuple" ∧ o.data = .seq its n ∧ its.size ≤ sizeLine ∧ Vals xs its.toList
theorem tupK2 {K : PySem.W.Frag} {a : Addr} {od : Option Addr} {i j : Int} {t u : Tok} {n : Nat} {sl : Array (Option Value)} (h : K.lookup a = some ⟨.type "tuple", od, .seq #[.int i t, .int j u] n, sl⟩) : TupK K a [.int i, .int j] :=
  ⟨_, _, _, h, rfl, rfl, (by show 2 ≤ sizeLine; decide), .cons ⟨_, rfl⟩ (.cons ⟨_, rfl⟩ .nil)⟩
theorem TupK.sq {K : PySem.W.Frag} {H : Hp} {a : Addr} {xs : List V} (h : TupK K a xs) : SqT K H a xs := .inr h
end L2
set_option Elab.async false
set_option linter.all false
set_option maxRecDepth 100000
namespace Pb
open L2 PySem
section
variable {m : Int} {rs : List Road} {r : Int} {par : Int → Int} {dep : Int → Nat}
end
section
variable {m : Int} {rs : List Road} {xs : List Int}
end
end Pb
set_option Elab.async false
set_option linter.all false
set_option maxRecDepth 100000
namespace L2
open PySem PySem.Spec PyProof.Rows PySem.W Pb
section
variable {X : Cx} {pins : List (Addr × Obj)} {σ : St} {H : Hp} {s : Shared}
end
def Itd (d : Addr) (o : Obj) (kvs : List (List Key × V)) : It :=
  ⟨fun i H => H d = some (.frz o (.dT kvs)) ∧ i < kvs.length, fun i H x H' => H' = H ∧ ∃ (q : Addr) (k : List Key) (v : V), x = .ref q ∧ kvs[i]? = some (k, v) ∧ H q = some (.tup (k.map kV)), fun i H => H d = some (.frz o (.dT kvs)) ∧ i = kvs.length⟩
def tForD (tl : TE) (g : TG) (tb : TS) : TS := fun D σ H => tl σ H fun x H1 => ∃ (d : Addr) (kvs : List (List Key × V)), x = .ref d ∧ H1 d = some (.dT kvs) ∧
  ∀ o, ForGo (Itd d o kvs) { D with nx := fun σ' H' => H' d = some (.frz o (.dT kvs)) ∧ D.nx σ' (upd H' d (.dT kvs)) } g tb σ (upd H1 d (.frz o (.dT kvs)))
section
variable {X : Cx} {tg : Expr}
end
end L2
set_option Elab.async false
set_option linter.all false
set_option maxRecDepth 100000
namespace Pb
open L2 PySem
def rsum {α : Type} (l : List α) (f : α → Rat) : Rat := l.foldr (fun x s => f x + s) 0
section
variable {α β : Type}
theorem rsum_cons (x : α) (l : List α) (f : α → Rat) : rsum (x :: l) f = f x + rsum l f := rfl
end
section
variable {m : Int} {rs : List Road} {r : Int} {par : Int → Int} {dep : Int → Nat}
def evp (rs : List Road) (u x : Int) : Rat := ((tollD rs u x : Int) - 1 : Rat) / (tollD rs u x * tollD rs x u - 1)
def sep (rs : List Road) (u x : Int) : Rat := ((tollD rs x u : Int) - 1 : Rat) / (tollD rs x u * tollD rs u x - 1)
def shr (m : Int) (rs : List Road) (F : Int → Int → Rat) (u : Int) : Rat := 1 - rsum (nbrs m rs u) (F u)
theorem cast_ne {a : Int} (ha : a ≠ 0) : (a : Rat) ≠ 0 := fun z => ha (Rat.intCast_inj.mp (z.trans rfl))
theorem mulL_rat : ∀ {fs : List (Int × Int)} {tb : Int × Int}, (∀ f ∈ fs, f.2 ≠ 0) → tb.2 ≠ 0 → (((mulL fs tb).1 : Int) : Rat) / (mulL fs tb).2 = (tb.1 : Rat) / tb.2 + rsum fs (fun f => (f.1 : Rat) / f.2)
  | [], tb, _, _ => (Rat.add_zero _).symm
  | f :: fs, tb, h, h2 => by
    have f2 := h f (.head _)
    have ih := mulL_rat (fs := fs) (tb := (tb.1 * f.2 + f.1 * tb.2, tb.2 * f.2)) (fun g hg => h g (.tail _ hg)) (Int.mul_ne_zero h2 f2)
    rw [rsum_cons]
    have n1 := cast_ne f2
    have n2 := cast_ne h2
    refine ih.trans ?_
    show ((tb.1 * f.2 + f.1 * tb.2 : Int) : Rat) / ((tb.2 * f.2 : Int) : Rat) + _ = _
    rw [Rat.intCast_add, Rat.intCast_mul, Rat.intCast_mul, Rat.intCast_mul]
    grind
theorem frc_rat {t b p q : Int} (h : Frc t b p q) (b0 : b ≠ 0) : (p : Rat) / q = (t : Rat) / b := by
  have n1 := cast_ne b0
  have n2 := cast_ne (Int.ne_of_gt h.pos)
  have e : (p : Rat) * b = t * q := by rw [← Rat.intCast_mul, ← Rat.intCast_mul, h.eq]
  grind
theorem rat_eq {a b c d : Int} (b0 : b ≠ 0) (d0 : d ≠ 0) (h : (a : Rat) / b = (c : Rat) / d) : a * d = c * b := by
  have n1 := cast_ne b0
  have n2 := cast_ne d0
  have e : (a : Rat) * d = c * b := by grind
  rw [← Rat.intCast_mul, ← Rat.intCast_mul] at e
  exact Rat.intCast_inj.mp e
end
end Pb
namespace Pb
open L2 PySem
theorem rsum_snoc {α : Type} (l : List α) (x : α) (f : α → Rat) : rsum (l ++ [x]) f = rsum l f + f x := by
  induction l with
  | nil => show f x + 0 = 0 + f x; grind
  | cons y l ih => rw [List.cons_append, rsum_cons, rsum_cons, ih]; grind
section
variable {m : Int} {rs : List Road} {r : Int} {par : Int → Int} {dep : Int → Nat} {to : Bool}
end
end Pb
namespace Pb
open L2 PySem
end Pb
namespace Pb
open L2 PySem
structure Shs (m : Int) (rs : List Road) (F : Int → Int → Rat) (fs : List (Int × Int)) : Prop where
  len : (fs.length : Int) = m
  one : ∀ f ∈ fs, 0 < f.2 ∧ f.1.gcd f.2 = 1
  val : ∀ (i : Nat) f, fs[i]? = some f → (f.1 : Rat) / f.2 = shr m rs F i
theorem Shs.eq {m : Int} {rs : List Road} {F : Int → Int → Rat} {fs fs' : List (Int × Int)} (h : Shs m rs F fs) (h' : Shs m rs F fs') : fs = fs' := by
  refine List.ext_getElem? fun i => ?_
  by_cases c : i < fs.length
  · have c' : i < fs'.length := by have := h.len; have := h'.len; omega
    have e := List.getElem?_eq_getElem c
    have e' := List.getElem?_eq_getElem c'
    obtain ⟨p1, p2⟩ := h.one _ (List.getElem_mem c)
    obtain ⟨q1, q2⟩ := h'.one _ (List.getElem_mem c')
    have := rat_eq (Int.ne_of_gt p1) (Int.ne_of_gt q1) ((h.val i _ e).trans (h'.val i _ e').symm)
    obtain ⟨z1, z2⟩ := frc_eq p1 p2 q1 q2 this
    rw [e, e', show fs[i] = fs'[i] from Prod.ext z1 z2]
  · have := h.len
    have := h'.len
    rw [List.getElem?_eq_none (by omega), List.getElem?_eq_none (by omega)]
end Pb
set_option Elab.async false
set_option linter.all false
set_option maxRecDepth 100000
namespace L2
open PySem PySem.Spec PyProof.Rows
def Cx.comp1 (X : Cx) (cx : Str) (Nc : List Str) (scope : Scope) (cl : List (Str × Addr)) (C : Addr) (s₂ : Shared) (H₁ : Hp) (fp : List Addr) : Cx := { X.comp Nc scope ((cx, C + 1) :: cl) C s₂ H₁ fp with fn := fun y => y == cx }
structure CompTxt1 (X : Cx) (cx : Str) (Nc : List Str) (own : Nat) (js : List Nat) (scope : Scope) (cl : List (Str × Addr)) : Prop where
  clos : closureFor scope X.env = pure cl
  kind : scope.kind = .function
  lay : ∀ (h : Heap) (n : Nat) (acc : List (Str × Addr)), pushCells h scope.names = h.push { cls := .type "cell", data := .cell none } ∧ cellsFrom n scope.names acc = (cx, n) :: acc
  names : ∀ y ∈ scope.names, y.2 = .local → scope.names.lookup y.1 = some .local
  cells : ∀ x c, cl.lookup x = some c → X.env.cells.lookup x = some c
  has : ∀ x, ((relabel scope X.env).names.lookup x = some .cell ∨ (relabel scope X.env).names.lookup x = some .free) → x = cx ∨ ∃ c, cl.lookup x = some c
  len : Nc.length = own + js.length
  outer : ∀ i x, Nc[own + i]? = some x → x ≠ cx ∧ ∃ j, js[i]? = some j ∧ X.N[j]? = some x ∧ X.env.scope.names.lookup x = some .cell ∧ (relabel scope X.env).names.lookup x = some .cell
theorem newEnv1 {M : Model} {A : Around} {E : Value → Shared → Prop} {s : Shared} {scope : Scope} {globals : Addr} {cl : List (Str × Addr)} {qual : Str} {env : Env} {cx : Str} {Q : Env → Shared → Prop}
    (lay : ∀ (h : Heap) (n : Nat) (acc : List (Str × Addr)), pushCells h scope.names = h.push { cls := .type "cell", data := .cell none } ∧ cellsFrom n scope.names acc = (cx, n) :: acc)
    (hQ : Q { scope, locals := s.heap.objs.size, globals, cells := (cx, s.heap.objs.size + 1) :: cl, qual, func := none, code := env.code, frame := env.frame, builtins := env.builtins } { s with heap := (s.heap.push { cls := .type "dict", data := .dict #[] }).push { cls := .type "cell", data := .cell none } }) :
    wpAny M A (newFunctionEnv scope globals cl [] qual none .none (some env)) Q E s := by
  simp only [newFunctionEnv, Option.isSome_some, if_true]
  refine wpAny_bind (wpAny_alloc ?_)
  refine wpAny_bind (wpAny_layCells _ (fun name kind cells => by cases hkc : kind == NameKind.cell <;> simp [hkc]) _ _ _ _ ?_)
  rw [(lay _ ({ s with heap := s.heap.push { cls := .type "dict", data := .dict #[] } } : Shared).heap.objs.size cl).1, (lay (s.heap.push { cls := .type "dict", data := .dict #[] }) _ cl).2]
  rw [show ({ s with heap := s.heap.push { cls := .type "dict", data := .dict #[] } } : Shared).heap.objs.size = s.heap.objs.size + 1 from Heap.size_push ..]
  rw [List.forIn_nil]
  exact wpAny_bind (wpAny_pure (wpAny_pure hQ))
theorem look1 {cx x : Str} {a c : Addr} {cl : List (Str × Addr)} (h : ((cx, a) :: cl).lookup x = some c) : (x = cx ∧ c = a) ∨ (x ≠ cx ∧ cl.lookup x = some c) := by
  rw [List.lookup_cons] at h
  cases z : x == cx with
  | true => rw [z] at h; exact .inl ⟨eq_of_beq z, (Option.some.inj h).symm⟩
  | false => rw [z] at h; exact .inr ⟨fun e => by rw [e] at z; simp at z, h⟩
theorem look1_ne {cx x : Str} {a : Addr} {cl : List (Str × Addr)} (h : x ≠ cx) : ((cx, a) :: cl).lookup x = cl.lookup x := by
  rw [List.lookup_cons]
  have : (x == cx) = false := by simpa using h
  rw [this]
section
variable {X : Cx} {cx : Str} {Nc : List Str} {own : Nat} {js : List Nat} {scope : Scope} {cl : List (Str × Addr)}
theorem comp_ok1 {pins : List (Addr × Obj)} {σ : St} {H₁ : Hp} {s₂ : Shared} {C : Addr} {fp : List Addr} (T : CompTxt1 X cx Nc own js scope cl) (I : Inv X pins σ H₁ s₂) (hC : s₂.heap.objs.size ≤ C)
    (f1 : ∀ b ∈ fp, FpOk X pins H₁ b) (hlt : ∀ b ∈ fp, b < s₂.heap.objs.size) : (X.comp1 cx Nc scope cl C s₂ H₁ fp).Ok := by
  have lo : ∀ x c, cl.lookup x = some c → c < s₂.heap.objs.size := fun x c h => by
    obtain ⟨v, o, ho, _⟩ := I.cell x c (T.cells x c h)
    exact Heap.lt_size ho
  exact {
    mod := I.ok.mod
    kind := by show (relabel scope X.env).kind = _; exact T.kind
    glob := I.ok.glob
    blt := I.ok.blt
    above := hC
    inj := fun x y c h1 h2 => by
      rcases look1 h1 with ⟨e1, e2⟩ | ⟨e1, e2⟩ <;> rcases look1 h2 with ⟨e3, e4⟩ | ⟨e3, e4⟩
      · rw [e1, e3]
      · exact absurd (lo y c e4) (by rw [e2]; exact Nat.not_lt.mpr (Nat.le_succ_of_le hC))
      · exact absurd (lo x c e2) (by rw [e4]; exact Nat.not_lt.mpr (Nat.le_succ_of_le hC))
      · exact I.ok.inj x y c (T.cells x c e2) (T.cells y c e4)
    has := fun x h => by
      by_cases e : x = cx
      · subst e
        exact ⟨C + 1, by show ((x, C + 1) :: cl).lookup x = _; rw [List.lookup_cons]; simp⟩
      · rcases T.has x h with z | ⟨c, z⟩
        · exact absurd z e
        · exact ⟨c, by show ((cx, C + 1) :: cl).lookup x = _; rw [look1_ne e]; exact z⟩
    cab := fun x c h h2 => by
      rcases look1 h2 with ⟨_, e⟩ | ⟨e, _⟩
      · rw [e]; exact Nat.le_succ_of_le hC
      · exact absurd (eq_of_beq h) e
    hd := I.ok.hd
    frames := I.ok.frames
    stk := .inl rfl
    exf := fun b hb => ⟨Nat.ne_of_lt (Nat.lt_of_lt_of_le (hlt b hb) hC), fun x c h => by
      rcases look1 h with ⟨_, e⟩ | ⟨_, e⟩
      · rw [e]; exact Nat.ne_of_gt (Nat.lt_of_lt_of_le (hlt b hb) (Nat.le_succ_of_le hC))
      · exact (f1 b hb).2.2.2.2.1 x c (T.cells x c e)⟩
    bs := I.bs
    bsz := Nat.le_trans I.ok.bsz I.sz
    noex := fun b o e hb => by
      rcases (f1 b hb).2.2.2.1 with z | z
      · exact I.ok.noex b o e z
      · exact absurd (Nat.lt_of_lt_of_le (Heap.lt_size (I.ok.bs b o e).1) z) (Nat.lt_irrefl _)
    exfs := fun b hb hs => by
      rcases List.mem_cons.mp (I.stkSub b hs) with z | z
      · exact (f1 b hb).2.1 z
      · exact (f1 b hb).2.2.1 z
    funs := I.stack
    frf := I.stkFree }
theorem comp_inv1 {pins : List (Addr × Obj)} {σ : St} {H₁ : Hp} {s₂ : Shared} {C D : Addr} {fp : List Addr} {h₁ : Heap} {t : Nat} {m : Str → Option Value} (T : CompTxt1 X cx Nc own js scope cl) (I : Inv X pins σ H₁ s₂) (hC : s₂.heap.objs.size ≤ C)
    (hD : s₂.heap.objs.size ≤ D) (hDC : D ≠ C) (hDC1 : D ≠ C + 1) (f1 : ∀ b ∈ fp, FpOk X pins H₁ b) (hlt : ∀ b ∈ fp, b < s₂.heap.objs.size) (old : ∀ b o, s₂.heap.get? b = some o → h₁.get? b = some o) (hns : h₁.Ns C m) (hcl : h₁.IsCell (C + 1) none)
    (hacc : ∃ n, h₁.get? D = some { cls := .type "list", data := .seq ([] : List Value).toArray n }) :
    Inv (X.comp1 cx Nc scope cl C s₂ H₁ fp) [] (compStart0 own js σ) (upd H₁ D (.lst [])) { s₂ with heap := h₁, toks := t } := by
  obtain ⟨na, hacc⟩ := hacc
  have cellK : ∀ c v, s₂.heap.IsCell c v → h₁.IsCell c v := fun c v ⟨o, ho, hd⟩ => ⟨o, old c o ho, hd⟩
  refine ⟨comp_ok1 T I hC f1 hlt, rfl, I.bare, Un.laid old hD (I.hok.fresh hD), ⟨m, hns, fun i x v e1 e2 e3 => ?_⟩, fun x c e => ?_, ?_, fun x c e => ?_, fun p hp => (by cases hp), I.hok.laid old hD ?_, ?_⟩
  · have hN : Nc[i]? = some x := e1
    have hσ : (compStart0 own js σ)[i]? = some (some v) := e2
    unfold compStart0 at hσ
    by_cases hi : i < own
    · rw [List.getElem?_append_left (by simpa using hi), List.getElem?_replicate] at hσ
      simp [hi] at hσ
    · obtain ⟨k, rfl⟩ : ∃ k, i = own + k := ⟨i - own, by omega⟩
      rw [List.getElem?_append_right (by simp)] at hσ
      simp only [List.length_replicate, Nat.add_sub_cancel_left, List.getElem?_map] at hσ
      obtain ⟨xn, j, hj, hx, hk, hr⟩ := T.outer k x hN
      rw [hj] at hσ
      replace hσ : some (σ[j]?.getD none) = some (some v) := hσ
      have hσj : σ[j]? = some (some v) := by
        cases q : σ[j]? with
        | none => rw [q] at hσ; simp at hσ
        | some y => rw [q] at hσ; simpa using hσ
      obtain ⟨m0, hn0, hl0⟩ := I.loc
      obtain ⟨u, ru, lk⟩ := hl0 j x v hx hσj (.inr (.inl hk))
      refine ⟨u, ru, .inr ⟨.inl hr, ?_⟩⟩
      rcases lk with ⟨z, _⟩ | ⟨_, c, hc, hcell⟩
      · have z' : X.env.scope.names.lookup x = some .local := z
        rw [hk] at z'; cases z'
      · rcases T.has x (.inl hr) with z | ⟨c', hc'⟩
        · exact absurd z xn
        · have := T.cells x c' hc'
          rw [hc] at this; cases this
          exact ⟨c, by show ((cx, C + 1) :: cl).lookup x = _; rw [look1_ne xn]; exact hc', cellK c _ hcell⟩
  · rcases look1 e with ⟨_, z⟩ | ⟨_, z⟩
    · rw [z]; exact ⟨_, hcl⟩
    · obtain ⟨v, z⟩ := I.cell x c (T.cells x c z)
      exact ⟨v, cellK c v z⟩
  · show upd H₁ D (.lst []) C = none
    rw [upd_ne (Ne.symm hDC)]
    exact I.hok.fresh hC
  · rcases look1 e with ⟨_, z⟩ | ⟨_, z⟩
    · rw [z, upd_ne (Ne.symm hDC1)]
      exact I.hok.fresh (Nat.le_succ_of_le hC)
    · have e' := T.cells x c z
      obtain ⟨v, o, ho, _⟩ := I.cell x c e'
      rw [upd_ne (Nat.ne_of_lt (Nat.lt_of_lt_of_le (Heap.lt_size ho) hD))]
      exact I.freeC x c e'
  · exact ⟨Nat.zero_le _, [], na, .nil, hacc⟩
  · show (compStart0 own js σ).length = Nc.length
    rw [T.len]
    simp [compStart0]
theorem comp_back1 {pins : List (Addr × Obj)} {σ σc : St} {H₁ H' : Hp} {s₂ s' : Shared} {C : Addr} {fp : List Addr} {h' : Heap} (I : Inv X pins σ H₁ s₂) (hC : s₂.heap.objs.size ≤ C)
    (f1 : ∀ b ∈ fp, FpOk X pins H₁ b) (I' : Inv (X.comp1 cx Nc scope cl C s₂ H₁ fp) [] σc H' s') (hs : Heap.SameBut C s'.heap h') : Inv X pins σ H' { s' with heap := h' } := by
  have u : Un (frs X.stack) fp H₁ H' s₂.heap s'.heap := I'.base
  have ne : ∀ b o, s₂.heap.get? b = some o → b ≠ C := fun b o e => Nat.ne_of_lt (Nat.lt_of_lt_of_le (Heap.lt_size e) hC)
  have k : ∀ b o, b ≠ C → s'.heap.get? b = some o → h'.get? b = some o := fun b o n e => hs.extBut b o n e
  have u' : Un (frs X.stack) fp H₁ H' s₂.heap h' := ⟨fun b o e n hb hx => k b o (ne b o e) (u.keep b o e n hb hx), fun b o e n hb hx => let ⟨sl, q⟩ := u.slot b o e n hb hx; ⟨sl, k b _ (ne b o e) q⟩,
    u.free, fun b o e hx => let ⟨o', q⟩ := u.there b o e hx; ⟨o', k b o' (ne b o e) q⟩, u.tups, u.frzs, u.tbls⟩
  have hfree : H' C = none := I'.free
  have hok' : HOk X.prog X.w H' h' := fun a o e => (I'.hok a o e).stay (fun b v hb q => k b v (fun z => by
    rcases hb with y | y
    · rw [y] at z; rw [z, hfree] at e; cases e
    · rw [z, hfree] at y; cases y) q) (fun _ q => q) fun _ _ q => q
  exact I.call' (s' := { s' with heap := h' }) (ch := fp) I'.os u' hok' I'.bare fun b hb => ⟨(f1 b hb).2.2.2.1, (f1 b hb).2.1, (f1 b hb).2.2.2.2.1, (f1 b hb).2.2.2.2.2⟩
theorem ps_setComp1 {i : Nat} {x : Str} {px pos : Pos} {elt target iter : Expr} {ifs : List Expr} {cpos : Pos} {wi : TI} {g : TG} {tc : TT} {te : TE} (hN : X.N.Nodup) (hxi : X.N[i]? = some x) (hxl : X.env.scope.names.lookup x = some .local) (hc : X.calm = true) (T : CompTxt1 X cx Nc own js scope cl)
    (hi : PI X target iter wi) (hg : ∀ C s₂ H₁ fp, PG (X.comp1 cx Nc scope cl C s₂ H₁ fp) target g) (ht : ∀ C s₂ H₁ fp, PTs (X.comp1 cx Nc scope cl C s₂ H₁ fp) ifs tc)
    (he : ∀ C s₂ H₁ fp, PE (X.comp1 cx Nc scope cl C s₂ H₁ fp) elt te) (hs : ∀ x, foldedSetIterable iter X.env x = pure x := by intro _; rfl)
    (hsw : swapsWith (.ListComp elt [⟨target, iter, ifs, 0⟩] scope cpos) (some (.Name x px)) pos.line X.env = pure true := by rfl) :
    PS X (.Assign [.Name x px] (.ListComp elt [⟨target, iter, ifs, 0⟩] scope cpos) pos) (tAsg (tComp own js wi g tc te) (gName i)) := by
  intro pins s σ H D I h
  rw [exec_Assign_Name_used _ _ _ _ hsw]
  refine wpAny_bind (wpAny_standAt (wpAny_bind ?_))
  rw [arm_evalThenUse_ListComp]
  refine wpAny_bind ?_
  refine wpAny_comprehension_free (use := some (assign (.Name x px) X.env)) rfl hs T.clos T.kind T.names (thn (hi pins s σ H _ I h) fun v s1 h1 => thn h1 fun itv s2 h2 => ?_)
  obtain ⟨it, fp, tn, J, H1, rfl, I1, Tn, st, f1, R⟩ := h2
  have hfp : ∀ b ∈ fp, b < s2.heap.objs.size := fun b hb => let ⟨o, e, _⟩ := Tn.obj _ _ st b hb; Heap.lt_size e
  refine wpAny_newObj_type (newEnv1 T.lay ?_)
  dsimp only
  generalize hH2 : s2.heap.push { cls := .type "list", dict := none, data := .seq ([] : List Value).toArray } = H2
  have hC : H2.objs.size = s2.heap.objs.size + 1 := by rw [← hH2, Heap.size_push]
  have hDC : s2.heap.objs.size ≠ H2.objs.size := by rw [hC]; exact Nat.ne_of_lt (Nat.lt_succ_self _)
  have hCle : s2.heap.objs.size ≤ H2.objs.size := by rw [hC]; exact Nat.le_succ _
  have below : ∀ b, b < s2.heap.objs.size → b ≠ H2.objs.size := fun b hb => by rw [hC]; exact Nat.ne_of_lt (Nat.lt_succ_of_lt hb)
  generalize hh₁ : (H2.push { cls := .type "dict", data := .dict #[] }).push { cls := .type "cell", data := .cell none } = h₁
  have old : ∀ b o, s2.heap.get? b = some o → h₁.get? b = some o := fun b o e => hh₁ ▸ Heap.get?_push_of_some _ (Heap.get?_push_of_some _ (hH2 ▸ Heap.get?_push_of_some _ e))
  have hns₁ : h₁.Ns H2.objs.size (fun _ => none) := hh₁ ▸ (Heap.Ns.new H2 (.type "dict")).keeps fun b o e => Heap.get?_push_of_some _ e
  have hcl₁ : h₁.IsCell (H2.objs.size + 1) none := by
    rw [← hh₁]
    refine ⟨{ cls := .type "cell", data := .cell none }, ?_, rfl⟩
    rw [show H2.objs.size + 1 = (H2.push { cls := .type "dict", data := .dict #[] }).objs.size by rw [Heap.size_push]]
    exact Heap.get?_push_size _ rfl
  have hacc : ∃ n, h₁.get? s2.heap.objs.size = some { cls := .type "list", data := .seq ([] : List Value).toArray n } := ⟨_, hh₁ ▸ Heap.get?_push_of_some _ (Heap.get?_push_of_some _ (hH2 ▸ Heap.get?_push_size _ rfl))⟩
  have st₁ : tn 0 h₁ := Tn.keep _ _ _ st fun b _ o e => old b o e
  obtain ⟨W, ⟨m0, w0⟩, turn⟩ := R s2.heap.objs.size I1.fresh
  have Ic := comp_inv1 (t := s2.toks) T I1 hCle (Nat.le_refl _) hDC (by rw [hC]; exact Nat.ne_of_lt (Nat.lt_succ_of_lt (Nat.lt_succ_self _))) f1 hfp old hns₁ hcl₁ hacc
  generalize hXc : X.comp1 cx Nc scope cl H2.objs.size s2 H1 fp = Xc at Ic
  have stat : ∀ {H' : Hp}, (∀ b ∈ fp, H' b = none) → ∀ b ∈ fp, FpOk Xc [] H' b := fun {H'} hn b hb => by
    subst hXc
    exact ⟨hn b hb, below b (hfp b hb), (comp_ok1 T I1 hCle f1 hfp).exfs b hb, .inl hb, ((comp_ok1 T I1 hCle f1 hfp).exf b hb).2, fun p hp => by cases hp⟩
  have fr0 : ∀ b ∈ fp, upd H1 s2.heap.objs.size (.lst []) b = none := fun b hb => by
    rw [upd_ne (Nat.ne_of_lt (hfp b hb))]
    exact (f1 b hb).1
  have calmc : Xc.calm = true := by subst hXc; exact hc
  have loop : ∀ s₃ : Shared, s₃ = { s2 with heap := h₁, toks := s2.toks } →
      codeAny (model X.prog X.w) X.A (.compLoop (.ListComp elt [⟨target, iter, ifs, 0⟩] scope cpos) 0 (.ref it) (.ref s2.heap.objs.size) (compEnvC scope ((cx, H2.objs.size + 1) :: cl) H2.objs.size X.env))
        (compPost (model X.prog X.w) X.A X.xe (some (assign (.Name x px) X.env)) (fun _ s' => wpAny (model X.prog X.w) X.A (pure ()) (fun _ s'' => wpAny (model X.prog X.w) X.A (pure Flow.next) (SP X pins D) X.xe s'') X.xe s') (.ref s2.heap.objs.size) H2.objs.size) s₃ := by
    rintro s₃ rfl
    refine compLoop_go (fun n s' => ∃ i ys σ' H', Inv Xc [] σ' H' s' ∧ tn i s'.heap ∧ (∀ b ∈ fp, H' b = none) ∧ W i n ys σ' H') ?_ m0 ⟨0, [], _, _, Ic, st₁, fr0, w0⟩
    rintro n s3 ⟨i, ys, σ3, H3, I3, st3, fr3, w3⟩
    rcases turn i n ys σ3 H3 w3 with ⟨stop, q⟩ | ⟨go, step⟩
    · subst hXc
      refine thn (Tn.done (X.comp1 cx Nc scope cl H2.objs.size s2 H1 fp) rfl rfl rfl hc i [] s3 σ3 H3 _ I3 (stat fr3) st3 stop) fun r s4 ⟨hr, I4⟩ => ?_
      subst hr
      obtain ⟨m4, hn4, _⟩ := id I4.loc
      have J := comp_back1 I1 hCle f1 I4 (h' := s4.heap) (Heap.SameBut.refl _ _)
      have cl0 : H2.objs.size ≠ X.env.locals := Nat.ne_of_gt (Nat.lt_of_lt_of_le I1.lt hCle)
      have cy : X.s₀.heap.objs.size ≤ H2.objs.size := Nat.le_trans I1.sz hCle
      have cc : ∀ y c, X.env.cells.lookup y = some c → c ≠ H2.objs.size := fun y c e => by
        obtain ⟨v', o', ho', _⟩ := I1.cell y c e
        exact Nat.ne_of_lt (Nat.lt_of_lt_of_le (Heap.lt_size ho') hCle)
      have cp : ∀ p ∈ X.pn ++ pins, p.1 ≠ H2.objs.size := fun p hp => by
        obtain ⟨ho', _⟩ := I1.pin p hp
        exact Nat.ne_of_lt (Nat.lt_of_lt_of_le (Heap.lt_size ho') hCle)
      refine asg_name (store_ok2 (v := .ref s2.heap.objs.size) J hN hxi (.inl hxl) rfl (fun s5 I5 ⟨ad, sb, had⟩ => ?_) (.inr hxl))
      have nad : H2.objs.size ≠ ad := by
        rcases had with rfl | had
        · exact cl0
        · exact (cc _ _ had).symm
      obtain ⟨oo, es, ep, e1, e2⟩ := hn4
      refine ⟨m4, ⟨oo, es, ep, (sb.2 _ nad).trans e1, e2⟩, fun h' hs' => wpAny_pure (wpAny_pure ⟨_, H3, ?_, q⟩)⟩
      exact I5.turned (it := H2.objs.size) (t' := s5.toks) (fun b o n e => hs'.extBut b o n e) I4.free cl0 (.inr cy) cc cp
    · subst hXc
      refine thn (Tn.item (X.comp1 cx Nc scope cl H2.objs.size s2 H1 fp) rfl rfl rfl hc i [] s3 σ3 H3 _ I3 (stat fr3) st3 go) fun r s4 ⟨u, hr, h4⟩ => ?_
      subst hr
      refine thn h4 fun _ s5 ⟨x, H5, I5, r5, y5, st5, fr5⟩ => ?_
      have I5' := I5.pinned (stat fr5) (Tn.obj _ _ st5)
      have back : ∀ {σ7 : St} {H7 : Hp} {s7 : Shared}, Inv (X.comp1 cx Nc scope cl H2.objs.size s2 H1 fp) ([] ++ pinsAt fp s5.heap) σ7 H7 s7 → Inv (X.comp1 cx Nc scope cl H2.objs.size s2 H1 fp) [] σ7 H7 s7 ∧ tn (i + 1) s7.heap ∧ ∀ b ∈ fp, H7 b = none := fun {σ7 H7 s7} I7 => by
        refine ⟨I7.unpinned, Tn.keep _ _ _ st5 fun b hb o e => (I7.pin (b, o) (List.mem_append_right _ (List.mem_append_right _ (mem_pinsAt hb e)))).1, fun b hb => ?_⟩
        obtain ⟨o, e, d⟩ := Tn.obj _ _ st5 b hb
        exact (I7.pin (b, o) (List.mem_append_right _ (List.mem_append_right _ (mem_pinsAt hb e)))).2.1
      refine thn (hg _ _ _ _ _ s5 σ3 H5 x u _ I5' r5 (step x H5 y5)) fun _ s6 ⟨σ6, H6, I6, q6⟩ => ?_
      refine thnT (ht _ _ _ _ _ s6 σ6 H6 _ I6 q6) fun ok s7 H7 I7 q7 => ?_
      cases ok with
      | false =>
        rw [if_neg Bool.false_ne_true] at q7 ⊢
        obtain ⟨m', hm, w7⟩ := q7
        obtain ⟨J1, J2, J3⟩ := back I7
        exact ⟨m', hm, i + 1, ys, σ6, H7, J1, J2, J3, w7⟩
      | true =>
        rw [if_pos rfl] at q7 ⊢
        refine thnE (he _ _ _ _ _ s7 σ6 H7 _ I7 q7) fun y s8 yv H8 I8 r8 ⟨hp8, hl8, m', hm, w8⟩ => ?_
        refine thn (mt_append _ s8 σ6 H8 (.ref s2.heap.objs.size) [yv] _ [y] (fun v' H' => W (i + 1) m' (ys ++ [yv]) σ6 H') I8 rfl (.cons r8 .nil) ⟨_, ys, yv, rfl, rfl, hp8, hl8, w8⟩) fun v9 s9 ⟨_, H9, I9, _, w9⟩ => ?_
        obtain ⟨J1, J2, J3⟩ := back I9
        exact ⟨m', hm, i + 1, ys ++ [yv], σ6, H9, J1, J2, J3, w9⟩
  exact codeAny_compStart_list (loop _ rfl) (Tn.self _ 0 _ _ _ st₁ (loop _ rfl))
end
theorem ct_clos1 {X : Cx} {Nc : List Str} {scope : Scope} (cx : Str) (own : Nat) (js : List Nat) (hone : ∀ y ∈ scope.names, y.2 = .cell → y.1 = cx)
    (lay : ∀ (h : Heap) (n : Nat) (acc : List (Str × Addr)), pushCells h scope.names = h.push { cls := .type "cell", data := .cell none } ∧ cellsFrom n scope.names acc = (cx, n) :: acc)
    (hk : scope.kind = .function) (hn : ∀ y ∈ scope.names, y.2 = .local → scope.names.lookup y.1 = some .local) (hl : Nc.length = own + js.length)
    (hf : ∀ y ∈ scope.names, y.2 = .free → X.env.scope.names.lookup y.1 = some .cell) (hX : X.env.scope.kind = .function) (hcell : ∀ x, X.env.scope.names.lookup x = some .cell → ∃ c, X.env.cells.lookup x = some c)
    (hU : ∀ i, i < js.length → ∃ x j, Nc[own + i]? = some x ∧ js[i]? = some j ∧ X.N[j]? = some x ∧ scope.names.lookup x = some .free ∧ x ≠ cx) : CompTxt1 X cx Nc own js scope (clOf X.env.cells scope.names []) := by
  have hs : ∀ y ∈ scope.names, y.2 = .free → (X.env.cells.lookup y.1).isSome = true := fun y hy e => by
    obtain ⟨c, q⟩ := hcell _ (hf y hy e)
    rw [q]
    rfl
  have free_cell : ∀ x, scope.names.lookup x = some .free → X.env.scope.names.lookup x = some .cell := fun x h => hf (x, .free) (PySem.mem_of_lookup h) rfl
  refine ⟨closure_of hs, hk, lay, hn, fun x c h => clOf_sub hs (fun x c z => by simp at z) h, fun x h => ?_, hl, fun i x h => ?_⟩
  · cases q : scope.names.lookup x with
    | none =>
      exfalso
      have : (relabel scope X.env).names.lookup x = none := by
        unfold relabel
        dsimp only
        revert q
        generalize scope.names = l
        induction l with
        | nil => intro _; rfl
        | cons y l ih =>
          obtain ⟨n, k⟩ := y
          intro q
          rw [List.lookup_cons] at q
          cases z : x == n with
          | true => rw [z] at q; cases q
          | false =>
            rw [z] at q
            rw [List.map_cons]
            dsimp only
            by_cases w : (k == NameKind.free && X.env.scope.kind == .function && X.env.kindOf n == some .cell) = true
            · rw [if_pos w, List.lookup_cons, z]
              exact ih q
            · rw [if_neg w, List.lookup_cons, z]
              exact ih q
      rw [this] at h
      rcases h with h | h <;> cases h
    | some k =>
      have r : (relabel scope X.env).names.lookup x = some _ := relabel_lookup (env := X.env) q
      cases k with
      | free => exact .inr (clOf_has (.inr (PySem.mem_of_lookup q)))
      | cell => exact .inl (hone _ (PySem.mem_of_lookup q) rfl)
      | _ =>
        rw [r] at h
        simp at h
  · have hi : i < js.length := by
      have := (List.getElem?_eq_some_iff.mp h).1
      omega
    obtain ⟨y, j, e1, e2, e3, e4, e5⟩ := hU i hi
    rw [h] at e1
    cases e1
    have fc := free_cell x e4
    refine ⟨e5, j, e2, e3, fc, ?_⟩
    have r : (relabel scope X.env).names.lookup x = some _ := relabel_lookup (env := X.env) e4
    rw [r]
    have : X.env.kindOf x = some .cell := fc
    rw [this, hX]
    rfl
def relS (scope sc : Scope) : Scope := { scope with names := scope.names.map fun (n, k) => if (k == .free && sc.kind == .function && sc.names.lookup n == some .cell) then (n, .cell) else (n, k) }
theorem hf_nest {X : Cx} {cx : Str} {Nc : List Str} {scope : Scope} {cl : List (Str × Addr)} {C : Addr} {s₂ : Shared} {H₁ : Hp} {fp : List Addr} (sc : Scope) (e : X.env.scope = sc) {l : List (Str × NameKind)} (h : ∀ y ∈ l, y.2 = .free → (relS scope sc).names.lookup y.1 = some .cell) :
    ∀ y ∈ l, y.2 = .free → (X.comp1 cx Nc scope cl C s₂ H₁ fp).env.scope.names.lookup y.1 = some .cell := by
  subst e
  exact h
section
variable {X : Cx} {cx : Str} {Nc : List Str} {own : Nat} {js : List Nat} {scope : Scope} {cl : List (Str × Addr)}
theorem CompTxt1.got (T : CompTxt1 X cx Nc own js scope cl) {C : Addr} {s₂ : Shared} {H₁ : Hp} {fp : List Addr} (x : Str) (h : (X.comp1 cx Nc scope cl C s₂ H₁ fp).env.scope.names.lookup x = some .cell) : ∃ c, (X.comp1 cx Nc scope cl C s₂ H₁ fp).env.cells.lookup x = some c := by
  by_cases e : x = cx
  · subst e
    exact ⟨C + 1, by show ((x, C + 1) :: cl).lookup x = _; rw [List.lookup_cons]; simp⟩
  · rcases T.has x (.inl h) with z | ⟨c, z⟩
    · exact absurd z e
    · exact ⟨c, by show ((cx, C + 1) :: cl).lookup x = _; rw [look1_ne e]; exact z⟩
theorem ps_nest {i : Nat} {x : Str} {px pos : Pos} {elt target iter : Expr} {ifs : List Expr} {cpos : Pos} {wi : TI} {g : TG} {tc : TT} {te : TE} (hN : X.N.Nodup) (hxi : X.N[i]? = some x) (hxl : X.env.scope.names.lookup x = some .local) (hc : X.calm = true) (T : CompTxt1 X cx Nc own js scope cl)
    (hi : PI X target iter wi) (hg : ∀ C s₂ H₁ fp, PG (X.comp1 cx Nc scope cl C s₂ H₁ fp) target g) (ht : ∀ C s₂ H₁ fp, PTs (X.comp1 cx Nc scope cl C s₂ H₁ fp) ifs tc)
    (he : ∀ C s₂ H₁ fp, (∀ x, (X.comp1 cx Nc scope cl C s₂ H₁ fp).env.scope.names.lookup x = some .cell → ∃ c, (X.comp1 cx Nc scope cl C s₂ H₁ fp).env.cells.lookup x = some c) → PE (X.comp1 cx Nc scope cl C s₂ H₁ fp) elt te)
    (hs : ∀ x, foldedSetIterable iter X.env x = pure x := by intro _; rfl)
    (hsw : swapsWith (.ListComp elt [⟨target, iter, ifs, 0⟩] scope cpos) (some (.Name x px)) pos.line X.env = pure true := by rfl) :
    PS X (.Assign [.Name x px] (.ListComp elt [⟨target, iter, ifs, 0⟩] scope cpos) pos) (tAsg (tComp own js wi g tc te) (gName i)) :=
  ps_setComp1 hN hxi hxl hc T hi hg ht (fun C s₂ H₁ fp => he C s₂ H₁ fp fun x h => T.got x h) hs hsw
end
end L2
set_option Elab.async false
set_option linter.all false
set_option maxRecDepth 100000
set_option maxHeartbeats 4000000
namespace Pk
open PySem L2 Pb
seal L2.PSs L2.PS L2.PE L2.PT L2.PW L2.PA L2.PG L2.PGs L2.PI L2.PTs L2.PC L2.PPs L2.PO
def top (i : Nat) : Stmt := PySem.Challenge.pw_pebbletoll_k52_even_and_second_shares.main.body.getD i (.Pass ⟨0, 0, 0, 0⟩)
local macro_rules | `(tactic| walk_at "rd") => `(tactic| ((try dsimp only [tYes, tIsN, tNotN, Ends.less, tRaise_eq, tTry_eq, tHand_eq, tFor_eq, tForD, tComp_eq', iTup, iList, iAny, iRng1, iRng2, iRng3, iEnum, iRev, iZip, cxOf_K, tNever_eq, tListR, tRet, tRetN, tSeq, tNext, tAsg, gName, gTup, gCons, gNil, gSub, tPar3, tAugS, tAug, tMinD, tNotT, ipI, tIfS, tDrop, tTest, tB, tChain, tC, tVar, tOp, tUn, rI0, rI, rU, rEq, rNe, tCall, tMake, tCons, tNil, tTup, tLst, tCB, tBM, tBM0, tFld, sFld, tDIn, tDInN, tDNotIn, sDPut, tDGet, tDisp, tDispT, tPairs, tDNewK, tDNewT, tAnd, tOr, tNot, tAndV, tOrV, tNotV, tIf, List.nil_append, List.append_nil, List.set_cons_zero, List.set_cons_succ, List.getElem?_cons_zero, List.getElem?_cons_succ]); (try simp only [tYes, tIsN, tNotN, Ends.less, tRaise_eq, tTry_eq, tHand_eq, tFor_eq, tForD, tComp_eq', iTup, iList, iAny, iRng1, iRng2, iRng3, iEnum, iRev, iZip, cxOf_K, tNever_eq, tListR, tRet, tRetN, tSeq, tNext, tAsg, gName, gTup, gCons, gNil, gSub, tPar3, tAugS, tAug, tMinD, tNotT, ipI, tIfS, tDrop, tTest, tB, tChain, tC, tVar, tOp, tUn, rI0, rI, rU, rEq, rNe, scal_ii, scal_bb, scal_in, scal_ni, scal_nn, scal_ss, tCall, tMake, tCons, tNil, tTup, tLst, tCB, tBM, tBM0, tFld, sFld, tDIn, tDInN, tDNotIn, sDPut, tDGet, tDisp, tDispT, tPairs, tDNewK, tDNewT, tAnd, tOr, tNot, tAndV, tOrV, tNotV, tIf, List.nil_append, List.append_nil, List.set_cons_zero, List.set_cons_succ, List.getElem?_cons_zero, List.getElem?_cons_succ, Option.some.injEq, V.int.injEq, V.bl.injEq, V.ref.injEq, List.cons.injEq, exists_eq_left, exists_eq_left', exists_and_left, exists_const, and_true, true_and, decide_eq_true_eq, Bool.not_eq_true', decide_eq_false_iff_not, Bool.true_eq_false, Bool.false_eq_true, if_true, if_false])))
set_option genSizeOf false in
set_option genInjectivity false in
structure Txt (K : PySem.W.Frag) (mg : Str → Option Value) where
  BadWeb : Addr
  m_BadWeb : mg "BadWeb" = some (.ref BadWeb)
  NoPlace : Addr
  m_NoPlace : mg "NoPlace" = some (.ref NoPlace)
  NoRoad : Addr
  m_NoRoad : mg "NoRoad" = some (.ref NoRoad)
  Web : Addr
  m_Web : mg "Web" = some (.ref Web)
  e_NoPlace : XObj K NoPlace
  e_NoRoad : XObj K NoRoad
  range : mg "range" = none
  len : mg "len" = none
  isinstance : mg "isinstance" = none
  all : mg "all" = none
  int : mg "int" = none
  bool : mg "bool" = none
  tuple : mg "tuple" = none
  list : mg "list" = none
  sorted : mg "sorted" = none
  sum : mg "sum" = none
  abs : mg "abs" = none
  c_MOST_PLACES : ∃ t, mg "MOST_PLACES" = some (.int 24 t)
  c_LEAST_TOLL : ∃ t, mg "LEAST_TOLL" = some (.int 2 t)
  c_MOST_TOLL : ∃ t, mg "MOST_TOLL" = some (.int 1000000 t)
  ONE : Addr
  m_ONE : mg "ONE" = some (.ref ONE)
  k_ONE : TupK K ONE [.int 1, .int 1]
  cl_Web : Cls K Web
  n_many : NoAttr K Web "many"
  n_roads : NoAttr K Web "roads"
section
variable {P : Program} {w : World} {K : PySem.W.Frag} {mg : Str → Option Value} {base : Heap} {CX : CXT}
/-! #### check_counts -/
def sp_check_counts (T : Txt K mg) : Sp := fun vs H Q _ => ∃ (m : Int) (t : Addr) (xs : List V), vs = [.int m, .ref t] ∧ SqT K H t xs ∧ 1 ≤ m ∧ m ≤ 24 ∧ (xs.length : Int) = m - 1 ∧ Q .non H
abbrev s_check_counts : Stmt := top 20
theorem sc_check_counts : FnScope ["many", "roads"] ["many", "roads"] (defScope s_check_counts) := FnScope.of (by kernel_rfl)
theorem n_check_counts__many : NmL (defScope s_check_counts) "many" := .of (by kernel_rfl)
theorem n_check_counts__roads : NmL (defScope s_check_counts) "roads" := .of (by kernel_rfl)
theorem n_check_counts__MOST_PLACES : NmG (defScope s_check_counts) "MOST_PLACES" := .of (by kernel_rfl)
theorem n_check_counts__BadWeb : NmG (defScope s_check_counts) "BadWeb" := .of (by kernel_rfl)
theorem n_check_counts__len : NmG (defScope s_check_counts) "len" := .of (by kernel_rfl)

theorem ok_check_counts (T : Txt K mg) (hq : Quiet (CXe P w)) {f : Addr} {fd : FuncData} (D : Df K mg "check_counts" s_check_counts ["many", "roads"] f fd) : FnOk P w K mg base (CXe P w) 1 f fd ["many", "roads"] (sp_check_counts T) := by
  refine D.F.okC sc_check_counts (fun vs H Q E h => ?_) (fun cdv A outer s H vs Q E hr h => ?_)
  · obtain ⟨m, t, xs, rfl, _⟩ := h
    rfl
  · obtain ⟨m, t, xs, rfl, ht, h1, h2, hl, k⟩ := h
    refine ⟨_, (pss_cons (ps_if (pt_not (pt_chain op_le op_le pe_int (pvl 0 n_check_counts__many) (pe_globI n_check_counts__MOST_PLACES.g T.c_MOST_PLACES (hd := n_check_counts__MOST_PLACES.d)))) (pss_one ps_never) pss_nil) (pss_one (ps_if (pt_cmpR op_ne (pe_callB call_len_seq n_check_counts__len.g T.len pb_len (pa_cons (pvl 1 n_check_counts__roads) pa_nil) (hn := n_check_counts__len.n) (hdb := n_check_counts__len.d)) (pe_op op_sub (pvl 0 n_check_counts__many) pe_int) (nomark _)) (pss_one ps_never) pss_nil))), ?_⟩
    rw [show L2.start ["many", "roads"] [V.int m, V.ref t] = [some (V.int m), some (V.ref t)] from rfl]
    walk_at "rd"
    rw [if_pos h1, if_neg (by omega)]
    exact ⟨xs, .inr ht, by rw [if_neg (by omega)]; exact k⟩
/-! #### is_place -/
def sp_is_place (T : Txt K mg) : Sp := fun vs H Q _ => ∃ m n : Int, vs = [.int m, .int n] ∧ Q (.bl (decide (0 ≤ n) && decide (n < m))) H
abbrev s_is_place : Stmt := top 19
theorem sc_is_place : FnScope ["many", "number"] ["many", "number"] (defScope s_is_place) := FnScope.of (by kernel_rfl)
theorem n_is_place__many : NmL (defScope s_is_place) "many" := .of (by kernel_rfl)
theorem n_is_place__number : NmL (defScope s_is_place) "number" := .of (by kernel_rfl)

theorem ok_is_place (T : Txt K mg) (hq : Quiet (CXe P w)) {f : Addr} {fd : FuncData} (D : Df K mg "is_place" s_is_place ["many", "number"] f fd) : FnOk P w K mg base (CXe P w) 1 f fd ["many", "number"] (sp_is_place T) := by
  refine D.F.okC sc_is_place (fun vs H Q E h => ?_) (fun cdv A outer s H vs Q E hr h => ?_)
  · obtain ⟨m, n, rfl, _⟩ := h
    rfl
  · obtain ⟨m, n, rfl, k⟩ := h
    refine ⟨_, (pss_one (ps_ret (pe_chain op_le op_lt pe_int (pvl 1 n_is_place__number) (pvl 0 n_is_place__many)))), ?_⟩
    rw [show L2.start ["many", "number"] [V.int m, V.int n] = [some (V.int m), some (V.int n)] from rfl]
    walk_at "rd"
    by_cases c : 0 ≤ n
    · simpa [c] using k
    · simpa [c] using k
/-! #### check_ends -/
def sp_check_ends (T : Txt K mg) : Sp := fun vs H Q _ => ∃ (m : Int) (p : Addr) (r : Road), vs = [.int m, .ref p] ∧ H p = some (.tup (vRoad r)) ∧ 0 ≤ r.a ∧ r.a < m ∧ 0 ≤ r.b ∧ r.b < m ∧ r.a ≠ r.b ∧ Q .non H
abbrev s_check_ends : Stmt := top 21
theorem sc_check_ends : FnScope ["many", "road"] ["many", "road"] (defScope s_check_ends) := FnScope.of (by kernel_rfl)
theorem n_check_ends__many : NmL (defScope s_check_ends) "many" := .of (by kernel_rfl)
theorem n_check_ends__road : NmL (defScope s_check_ends) "road" := .of (by kernel_rfl)
theorem n_check_ends__is_place : NmG (defScope s_check_ends) "is_place" := .of (by kernel_rfl)
theorem n_check_ends__BadWeb : NmG (defScope s_check_ends) "BadWeb" := .of (by kernel_rfl)

theorem ok_check_ends (T : Txt K mg) (hq : Quiet (CXe P w)) {f : Addr} {fd : FuncData} (D : Df K mg "check_ends" s_check_ends ["many", "road"] f fd) {f_is_place : Addr} {fd_is_place : FuncData} (D_is_place : Df K mg "is_place" s_is_place ["many", "number"] f_is_place fd_is_place) (G_is_place : FnOk P w K mg base (CXe P w) 1 f_is_place fd_is_place ["many", "number"] (sp_is_place T)) : FnOk P w K mg base (CXe P w) 2 f fd ["many", "road"] (sp_check_ends T) := by
  refine D.F.okC sc_check_ends (fun vs H Q E h => ?_) (fun cdv A outer s H vs Q E hr h => ?_)
  · obtain ⟨m, p, r, rfl, _⟩ := h
    rfl
  · obtain ⟨m, p, r, rfl, hp, a0, a1, b0, b1, ne, k⟩ := h
    refine ⟨_, (pss_cons (ps_if (PW.pt (pw_or (pt_not (pt_val (pe_call G_is_place (hr.mono (by decide)) n_check_ends__is_place.g D_is_place.m D_is_place.F.kp D_is_place.b .nil (passQ hq) (pa_cons (pvl 0 n_check_ends__many) (pa_cons (pe_ix ix_tup (pvl 1 n_check_ends__road) pe_int (fun _ _ => rfl)) pa_nil)) (hdb := n_check_ends__is_place.d)))) (pw_or1 (pt_not (pt_val (pe_call G_is_place (hr.mono (by decide)) n_check_ends__is_place.g D_is_place.m D_is_place.F.kp D_is_place.b .nil (passQ hq) (pa_cons (pvl 0 n_check_ends__many) (pa_cons (pe_ix ix_tup (pvl 1 n_check_ends__road) pe_int (fun _ _ => rfl)) pa_nil)) (hdb := n_check_ends__is_place.d))))))) (pss_one ps_never) pss_nil) (pss_one (ps_if (pt_cmpR op_eq (pe_ix ix_tup (pvl 1 n_check_ends__road) pe_int (fun _ _ => rfl)) (pe_ix ix_tup (pvl 1 n_check_ends__road) pe_int (fun _ _ => rfl)) (nomark _)) (pss_one ps_never) pss_nil))), ?_⟩
    rw [show L2.start ["many", "road"] [V.int m, V.ref p] = [some (V.int m), some (V.ref p)] from rfl]
    walk_at "rd"
    refine ixT hp rfl ⟨m, r.a, rfl, _, rfl, ?_⟩
    rw [if_neg (by simp [a0, a1])]
    refine ixT hp rfl ⟨m, r.b, rfl, _, rfl, ?_⟩
    rw [if_neg (by simp [b0, b1])]
    refine ixT hp rfl (ixT hp rfl ⟨rfl, ?_⟩)
    rw [if_neg (by simpa using ne)]
    exact k
/-! #### other_ends -/
def sp_other_ends (T : Txt K mg) : Sp := fun vs H Q _ => ∃ (t : Addr) (ps : List Addr) (rs : List Road) (n : Int), vs = [.ref t, .int n] ∧ SqT K H t (ps.map V.ref) ∧ RoadsAt H ps rs ∧ rs.length ≤ 1000 ∧
  ∀ l H', H l = none → Same H H' → H' l = some (.lst ((ends rs n).map V.int)) → Q (.ref l) H'
abbrev s_other_ends : Stmt := top 24
theorem sc_other_ends : FnScope ["roads", "place", "ends", "road"] ["roads", "place"] (defScope s_other_ends) := FnScope.of (by kernel_rfl)
theorem n_other_ends__roads : NmL (defScope s_other_ends) "roads" := .of (by kernel_rfl)
theorem n_other_ends__place : NmL (defScope s_other_ends) "place" := .of (by kernel_rfl)
theorem n_other_ends__ends : NmL (defScope s_other_ends) "ends" := .of (by kernel_rfl)
theorem n_other_ends__road : NmL (defScope s_other_ends) "road" := .of (by kernel_rfl)

theorem ok_other_ends (T : Txt K mg) (hq : Quiet (CXe P w)) {f : Addr} {fd : FuncData} (D : Df K mg "other_ends" s_other_ends ["roads", "place"] f fd) : FnOk P w K mg base (CXe P w) 1 f fd ["roads", "place"] (sp_other_ends T) := by
  refine D.F.okC sc_other_ends (fun vs H Q E h => ?_) (fun cdv A outer s H vs Q E hr h => ?_)
  · obtain ⟨t, ps, rs, n, rfl, _⟩ := h
    rfl
  · obtain ⟨t, ps, rs, n, rfl, ht, hp, hl, k⟩ := h
    refine ⟨_, (pss_cons (ps_set (i := 2) sc_other_ends.nd rfl (Or.inl n_other_ends__ends.l) (pe_lst pa_nil)) (pss_cons (ps_for PassesOwn.never rfl (pi_tup (pvl 0 n_other_ends__roads)) (pg_name (i := 3) sc_other_ends.nd rfl (Or.inl n_other_ends__road.l)) (pss_cons (ps_if (pt_cmpR op_eq (pe_ix ix_tup (pvl 3 n_other_ends__road) pe_int (fun _ _ => rfl)) (pvl 1 n_other_ends__place) (nomark _)) (pss_one (ps_expr (pe_bm PySem.F.plainAttrs_list PySem.F.slot_list_append PySem.F.type_list_append mt_append (pvl 2 n_other_ends__ends) (pa_cons (pe_ix ix_tup (pvl 3 n_other_ends__road) pe_int (fun _ _ => rfl)) pa_nil)))) pss_nil) (pss_one (ps_if (pt_cmpR op_eq (pe_ix ix_tup (pvl 3 n_other_ends__road) pe_int (fun _ _ => rfl)) (pvl 1 n_other_ends__place) (nomark _)) (pss_one (ps_expr (pe_bm PySem.F.plainAttrs_list PySem.F.slot_list_append PySem.F.type_list_append mt_append (pvl 2 n_other_ends__ends) (pa_cons (pe_ix ix_tup (pvl 3 n_other_ends__road) pe_int (fun _ _ => rfl)) pa_nil)))) pss_nil)))) (pss_one (ps_ret (pvl 2 n_other_ends__ends))))), ?_⟩
    rw [show L2.start ["roads", "place", "ends", "road"] [V.ref t, V.int n] = [some (V.ref t), some (V.int n), none, none] from rfl]
    walk_at "rd"
    refine ⟨by decide, fun l hn => ?_⟩
    have hlen : ps.length = rs.length := Paired.length hp
    refine ⟨⟨_, Same.tup (Same.new _ hn) ht⟩, for_tup (xs := ps.map V.ref) (fun i σ H2 => H2 = upd H l (.lst ((ends (rs.take i) n).map V.int)) ∧ ∃ v, σ = [some (.ref t), some (.int n), some (.ref l), v]) ⟨rfl, _, rfl⟩ (fun i σ H2 _ z => by rw [z.1]; exact Same.tup (Same.new _ hn) ht) ?_ ?_⟩
    · rintro i x σ H2 hi ⟨rfl, v, rfl⟩
      obtain ⟨p, r, rfl, h1, h2, h3⟩ := hp.get hi
      have np : p ≠ l := ne_of_none h3 hn
      have hil : i < rs.length := (List.getElem?_eq_some_iff.mp h2).1
      have et : rs.take (i + 1) = rs.take i ++ [r] := by rw [List.take_succ, h2]; rfl
      have hb : (ends (rs.take i) n).length ≤ 2000 := Nat.le_trans (ends_len _ _) (by rw [List.length_take]; omega)
      have hx : ∀ o, upd H l o p = some (.tup (vRoad r)) := fun o => by rw [upd_ne np]; exact h3
      walk_at "rd"
      refine ixT (hx _) rfl ?_
      walk_at "rd"
      have fin : ∀ (ys : List Int), (ends (rs.take i) n ++ ys) = ends (rs.take (i + 1)) n → upd H l (.lst ((ends (rs.take i) n).map V.int ++ ys.map V.int)) = upd H l (.lst ((ends (rs.take (i + 1)) n).map V.int)) := fun ys e => by
        rw [← List.map_append, e]
      have e1 : ends1 n r = (if r.a = n then [r.b] else []) ++ (if r.b = n then [r.a] else []) := rfl
      by_cases ca : r.a = n
      · rw [if_pos ca]
        refine ⟨tyL upd_same, ixT (hx _) rfl (appR upd_same (small (by rw [List.length_map]; omega)) ?_)⟩
        rw [upd_upd]
        refine ixT (hx _) rfl ?_
        walk_at "rd"
        by_cases cb : r.b = n
        · rw [if_pos cb]
          refine ⟨tyL upd_same, ixT (hx _) rfl (appR upd_same (small (by rw [List.length_append, List.length_map]; simp; omega)) ?_)⟩
          rw [upd_upd, List.append_assoc]
          exact ⟨fin [r.b, r.a] (by rw [et, ends_snoc, e1, if_pos ca, if_pos cb]; rfl), _, rfl⟩
        · rw [if_neg cb]
          exact ⟨fin [r.b] (by rw [et, ends_snoc, e1, if_pos ca, if_neg cb]; rfl), _, rfl⟩
      · rw [if_neg ca]
        refine ixT (hx _) rfl ?_
        walk_at "rd"
        by_cases cb : r.b = n
        · rw [if_pos cb]
          refine ⟨tyL upd_same, ixT (hx _) rfl (appR upd_same (small (by rw [List.length_map]; omega)) ?_)⟩
          rw [upd_upd]
          exact ⟨fin [r.a] (by rw [et, ends_snoc, e1, if_neg ca, if_pos cb]; rfl), _, rfl⟩
        · rw [if_neg cb]
          have := fin [] (by rw [et, ends_snoc, e1, if_neg ca, if_neg cb]; rfl)
          rw [List.map_nil, List.append_nil] at this
          exact ⟨this, _, rfl⟩
    · rintro σ H2 ⟨rfl, v, rfl⟩
      rw [List.length_map, hlen, List.take_length]
      exact ⟨_, rfl, k l _ hn (Same.new _ hn) upd_same⟩
/-! #### check_joined -/
def kvsOf (ks : List Int) : List (Key × V) := ks.map fun k => ((Sum.inl k : Key), V.bl true)
theorem kvsOf_len (ks : List Int) : (kvsOf ks).length = ks.length := by unfold kvsOf; rw [List.length_map]
theorem valV_kvs (ks : List Int) (e : Int) : valV (kvsOf ks) (Sum.inl e : Key) = if e ∈ ks then some (V.bl true) else none := by
  unfold kvsOf
  induction ks with
  | nil => rfl
  | cons k ks ih =>
    rw [List.map_cons]
    by_cases c : k = e
    · rw [valV_pos (by rw [c]), if_pos (by rw [c]; exact List.mem_cons_self)]
    · rw [valV_neg (fun z => c (Sum.inl.inj z)), ih]
      by_cases d : e ∈ ks
      · rw [if_pos d, if_pos (List.mem_cons_of_mem _ d)]
      · rw [if_neg d, if_neg (fun z => by rcases List.mem_cons.mp z with z | z; exact c z.symm; exact d z)]
theorem putK_kvs {ks : List Int} {e : Int} (h : e ∉ ks) : putK (kvsOf ks) (Sum.inl e : Key) (V.bl true) = kvsOf (ks ++ [e]) := by
  rw [putK_new _ (by rw [valV_kvs, if_neg h])]
  unfold kvsOf
  rw [List.map_append]
  rfl
def sp_check_joined (T : Txt K mg) : Sp := fun vs H Q _ => ∃ (m : Int) (t : Addr) (ps : List Addr) (rs : List Road), vs = [.int m, .ref t] ∧ SqT K H t (ps.map V.ref) ∧ RoadsAt H ps rs ∧ Good m rs ∧ ∀ H', Same H H' → Q .non H'
abbrev s_check_joined : Stmt := top 23
theorem sc_check_joined : FnScope ["many", "roads", "reached", "waiting", "place", "end"] ["many", "roads"] (defScope s_check_joined) := FnScope.of (by kernel_rfl)
theorem n_check_joined__many : NmL (defScope s_check_joined) "many" := .of (by kernel_rfl)
theorem n_check_joined__roads : NmL (defScope s_check_joined) "roads" := .of (by kernel_rfl)
theorem n_check_joined__reached : NmL (defScope s_check_joined) "reached" := .of (by kernel_rfl)
theorem n_check_joined__waiting : NmL (defScope s_check_joined) "waiting" := .of (by kernel_rfl)
theorem n_check_joined__place : NmL (defScope s_check_joined) "place" := .of (by kernel_rfl)
theorem n_check_joined__end : NmL (defScope s_check_joined) "end" := .of (by kernel_rfl)
theorem n_check_joined__other_ends : NmG (defScope s_check_joined) "other_ends" := .of (by kernel_rfl)
theorem n_check_joined__len : NmG (defScope s_check_joined) "len" := .of (by kernel_rfl)
theorem n_check_joined__BadWeb : NmG (defScope s_check_joined) "BadWeb" := .of (by kernel_rfl)

theorem ok_check_joined (T : Txt K mg) (hq : Quiet (CXe P w)) {f : Addr} {fd : FuncData} (D : Df K mg "check_joined" s_check_joined ["many", "roads"] f fd) {f_other_ends : Addr} {fd_other_ends : FuncData} (D_other_ends : Df K mg "other_ends" s_other_ends ["roads", "place"] f_other_ends fd_other_ends) (G_other_ends : FnOk P w K mg base (CXe P w) 1 f_other_ends fd_other_ends ["roads", "place"] (sp_other_ends T)) : FnOk P w K mg base (CXe P w) 2 f fd ["many", "roads"] (sp_check_joined T) := by
  refine D.F.okC sc_check_joined (fun vs H Q E h => ?_) (fun cdv A outer s H vs Q E hr h => ?_)
  · obtain ⟨m, t, ps, rs, rfl, _⟩ := h
    rfl
  · obtain ⟨m, t, ps, rs, rfl, ht, hp, g, k⟩ := h
    have hu := hu_of hr
    refine ⟨_, (pss_cons (ps_set (i := 2) sc_check_joined.nd rfl (Or.inl n_check_joined__reached.l) (pe_disp (pps_cons pe_int pe_bl pps_nil) rfl rfl (List.cons_ne_nil _ _) (by decide))) (pss_cons (ps_set (i := 3) sc_check_joined.nd rfl (Or.inl n_check_joined__waiting.l) (pe_lst (pa_cons pe_int pa_nil))) (pss_cons (ps_while PassesOwn.never (pt_truth (pvl 3 n_check_joined__waiting) (fun _ => rfl)) (pss_cons (ps_set (i := 4) sc_check_joined.nd rfl (Or.inl n_check_joined__place.l) (pe_bm0 PySem.F.plainAttrs_list PySem.F.slot_list_pop PySem.F.type_list_pop mt_pop (pvl 3 n_check_joined__waiting))) (pss_one (ps_for PassesOwn.never rfl (pi_list (pe_call G_other_ends (hr.mono (by decide)) n_check_joined__other_ends.g D_other_ends.m D_other_ends.F.kp D_other_ends.b .nil (passQ hq) (pa_cons (pvl 1 n_check_joined__roads) (pa_cons (pvl 4 n_check_joined__place) pa_nil)) (hdb := n_check_joined__other_ends.d))) (pg_name (i := 5) sc_check_joined.nd rfl (Or.inl n_check_joined__end.l)) (pss_one (ps_if (pt_cmp (pc_dnotin hu (pvl 5 n_check_joined__end) (pvl 2 n_check_joined__reached))) (pss_cons (ps_dput hu (pvl 2 n_check_joined__reached) (pvl 5 n_check_joined__end) pe_bl rfl) (pss_one (ps_expr (pe_bm PySem.F.plainAttrs_list PySem.F.slot_list_append PySem.F.type_list_append mt_append (pvl 3 n_check_joined__waiting) (pa_cons (pvl 5 n_check_joined__end) pa_nil))))) pss_nil)))))) (pss_one (ps_if (pt_cmpR op_ne (pe_callB call_lenD n_check_joined__len.g T.len pb_len (pa_cons (pvl 2 n_check_joined__reached) pa_nil) (hn := n_check_joined__len.n) (hdb := n_check_joined__len.d)) (pvl 0 n_check_joined__many) (nomark _)) (pss_one ps_never) pss_nil))))), ?_⟩
    rw [show L2.start ["many", "roads", "reached", "waiting", "place", "end"] [V.int m, V.ref t] = [some (V.int m), some (V.ref t), none, none, none, none] from rfl]
    have m1 := g.m1
    have m24 := g.m24
    have glen := g.len
    walk_at "rd"
    intro d hd
    refine ⟨upd_same, [(Sum.inl 0, .bl true)], rfl, by decide, ?_⟩
    rw [upd_upd]
    refine ⟨by decide, fun w0 hw => ?_⟩
    have ed : mergeK [] [((Sum.inl 0 : Key), V.bl true)] = kvsOf [0] := rfl
    rw [ed]
    have ndw : w0 ≠ d := fun z => by rw [z, upd_same] at hw; cases hw
    have hw0 : H w0 = none := by rw [upd_ne ndw] at hw; exact hw
    refine while_n (fun n σ H2 => ∃ (ks ws : List Int) (v4 v5 : Option V), n = 2 * (m.toNat - ks.length) + ws.length ∧ σ = [some (.int m), some (.ref t), some (.ref d), some (.ref w0), v4, v5] ∧ Same H H2 ∧ H2 d = some (.dK (kvsOf ks)) ∧ H2 w0 = some (.lst (ws.map V.int)) ∧ JInv m rs ks ws) _ ⟨[0], [0], none, none, rfl, rfl, ?_, ?_, upd_same, JInv.start m1⟩ ?_
    · exact Same.trans (Same.new _ hd) (Same.new _ hw)
    · rw [upd_ne ndw.symm, upd_same]
    rintro n σ H2 NW hN hN2 ⟨ks, ws, v4, v5, rfl, rfl, sm, h1, h2, J⟩
    have kl := nodup_len (by omega) J.nd J.rng
    refine ⟨_, rfl, !(ws.map V.int).isEmpty, .inl ⟨_, SqL.of h2, rfl⟩, ?_⟩
    rcases List.eq_nil_or_concat ws with rfl | ⟨ws', p, rfl⟩
    · -- nothing waits: all places have been reached
      have full := J.all m1 g.jn
      refine iteF ?_
      walk_at "rd"
      refine ⟨kvsOf ks, h1, ?_⟩
      rw [kvsOf_len, if_neg (by omega)]
      exact k _ sm
    · rw [List.concat_eq_append] at J h2 hN hN2 ⊢
      have e1 : (!(List.map V.int (ws' ++ [p])).isEmpty) = true := by simp
      rw [e1]
      refine iteT ⟨NW, hN2, ?_⟩
      walk_at "rd"
      rw [List.map_append, List.map_cons, List.map_nil] at h2
      refine ⟨tyL h2, popR h2 ?_⟩
      have ndw' : d ≠ w0 := ndw.symm
      have sm2 : Same H (upd H2 w0 (.lst (ws'.map V.int))) := fun b o e => by rw [upd_ne (ne_of_none e hw0)]; exact sm b o e
      refine ⟨t, ps, rs, p, rfl, Same.tup sm2 ht, RoadsAt.same sm2 hp, by omega, fun l H3 hn s3 hl => ?_⟩
      have nlw : w0 ≠ l := ne_of_none (o := .lst (ws'.map V.int)) upd_same hn
      have nld : d ≠ l := ne_of_none (o := .dK (kvsOf ks)) (by rw [upd_ne ndw']; exact h1) hn
      have hl0 : H l = none := sm2.free hn
      refine ⟨l, rfl, ⟨_, SqL.of hl⟩, for_listN (K := K) (xs := (ends rs p).map V.int) (fun i σ H4 => ∃ (v5 : Option V), σ = [some (.int m), some (.ref t), some (.ref d), some (.ref w0), some (.int p), v5] ∧ Same H H4 ∧ H4 l = some (.lst ((ends rs p).map V.int)) ∧
        ∃ ks4 ws4 : List Int, H4 d = some (.dK (kvsOf ks4)) ∧ H4 w0 = some (.lst (ws4.map V.int)) ∧ JMid m rs p ((ends rs p).take i) ks4 ws4 ks ws'.length) ?_ (fun i σ H4 _ z => by obtain ⟨_, _, _, z, _⟩ := z; exact SqL.of z) ?_ ?_⟩
      · refine ⟨_, rfl, sm2.trans s3, hl, ks, ws', ?_, ?_, ?_⟩
        · exact s3 _ _ (by rw [upd_ne ndw']; exact h1)
        · exact s3 _ _ upd_same
        · rw [List.take_zero]; exact JMid.start J
      · rintro i x σ H4 NI hI hi ⟨v5, rfl, s4, hl4, ks4, ws4, hd4, hw4, M⟩
        rw [List.getElem?_map] at hi
        obtain ⟨e, he, rfl⟩ : ∃ e, (ends rs p)[i]? = some e ∧ V.int e = x := by
          cases q : (ends rs p)[i]? with
          | none => rw [q] at hi; cases hi
          | some e => rw [q] at hi; exact ⟨e, rfl, Option.some.inj hi⟩
        have er := ends_rng g.ok (List.mem_of_getElem? he)
        have et : (ends rs p).take (i + 1) = (ends rs p).take i ++ [e] := by rw [List.take_succ, he]; rfl
        have st := M.step er.1 er.2
        have k4 := nodup_len (by omega) M.nd M.rng
        have mu4 := M.mu
        walk_at "rd"
        refine ⟨_, DGet.k (k := Sum.inl e) hd4, ?_⟩
        rw [valV_kvs]
        by_cases c : e ∈ ks4
        · rw [if_pos c]
          rw [if_neg (by simp)]
          refine hI _ _ ⟨_, rfl, s4, hl4, ks4, ws4, hd4, hw4, ?_⟩
          rw [et]
          unfold jstep at st
          rw [if_pos c] at st
          exact st
        · rw [if_neg c]
          rw [if_pos (by simp)]
          refine ⟨_, DPut.k (k := Sum.inl e) hd4 (small (by rw [kvsOf_len]; omega)), ?_⟩
          rw [putK_kvs c]
          have hw5 : upd H4 d (.dK (kvsOf (ks4 ++ [e]))) w0 = some (.lst (ws4.map V.int)) := by rw [upd_ne ndw]; exact hw4
          refine ⟨tyL hw5, appR hw5 (small (by rw [List.length_map]; have := M.wl; omega)) ?_⟩
          have hmid := M.mu
          refine hI _ _ ⟨_, rfl, fun b o z => ?_, ?_, ks4 ++ [e], ws4 ++ [e], ?_, ?_, ?_⟩
          · rw [upd_ne (ne_of_none z hw0), upd_ne (ne_of_none z hd)]; exact s4 b o z
          · rw [upd_ne nlw.symm, upd_ne nld.symm]; exact hl4
          · rw [upd_ne ndw', upd_same]
          · rw [upd_same, List.map_append]; rfl
          · rw [et]
            unfold jstep at st
            rw [if_neg c] at st
            exact st
      · rintro σ H4 ⟨v5, rfl, s4, hl4, ks4, ws4, hd4, hw4, M⟩
        rw [List.length_map, List.take_length] at M
        have k4 := nodup_len (by omega) M.nd M.rng
        have mu4 := M.mu
        have up4 := M.up
        refine hN _ _ _ ?_ ⟨ks4, ws4, some (.int p), v5, rfl, rfl, s4, hd4, hw4, M.done⟩
        rw [List.length_append]
        simp only [List.length_cons, List.length_nil]
        omega
/-! #### check_tolls -/
def sp_check_tolls (T : Txt K mg) : Sp := fun vs H Q _ => ∃ (p : Addr) (r : Road), vs = [.ref p] ∧ H p = some (.tup (vRoad r)) ∧ 2 ≤ r.t ∧ r.t ≤ 1000000 ∧ 2 ≤ r.u ∧ r.u ≤ 1000000 ∧ ∀ H', Same H H' → Q .non H'
abbrev s_check_tolls : Stmt := top 22
theorem sc_check_tolls : FnScope ["road", "number"] ["road"] (defScope s_check_tolls) := FnScope.of (by kernel_rfl)
theorem n_check_tolls__road : NmL (defScope s_check_tolls) "road" := .of (by kernel_rfl)
theorem n_check_tolls__number : NmL (defScope s_check_tolls) "number" := .of (by kernel_rfl)
theorem n_check_tolls__LEAST_TOLL : NmG (defScope s_check_tolls) "LEAST_TOLL" := .of (by kernel_rfl)
theorem n_check_tolls__MOST_TOLL : NmG (defScope s_check_tolls) "MOST_TOLL" := .of (by kernel_rfl)
theorem n_check_tolls__BadWeb : NmG (defScope s_check_tolls) "BadWeb" := .of (by kernel_rfl)

theorem ok_check_tolls (T : Txt K mg) (hq : Quiet (CXe P w)) {f : Addr} {fd : FuncData} (D : Df K mg "check_tolls" s_check_tolls ["road"] f fd) : FnOk P w K mg base (CXe P w) 1 f fd ["road"] (sp_check_tolls T) := by
  refine D.F.okC sc_check_tolls (fun vs H Q E h => ?_) (fun cdv A outer s H vs Q E hr h => ?_)
  · obtain ⟨p, r, rfl, _⟩ := h
    rfl
  · obtain ⟨p, r, rfl, hp, t0, t1, u0, u1, k⟩ := h
    refine ⟨_, (pss_one (ps_for PassesOwn.never rfl (pi_tup (pe_tup (pa_cons (pe_ix ix_tup (pvl 0 n_check_tolls__road) pe_int (fun _ _ => rfl)) (pa_cons (pe_ix ix_tup (pvl 0 n_check_tolls__road) pe_int (fun _ _ => rfl)) pa_nil)))) (pg_name (i := 1) sc_check_tolls.nd rfl (Or.inl n_check_tolls__number.l)) (pss_one (ps_if (pt_not (pt_chain op_le op_le (pe_globI n_check_tolls__LEAST_TOLL.g T.c_LEAST_TOLL (hd := n_check_tolls__LEAST_TOLL.d)) (pvl 1 n_check_tolls__number) (pe_globI n_check_tolls__MOST_TOLL.g T.c_MOST_TOLL (hd := n_check_tolls__MOST_TOLL.d)))) (pss_one ps_never) pss_nil)))), ?_⟩
    rw [show L2.start ["road", "number"] [V.ref p] = [some (V.ref p), none] from rfl]
    walk_at "rd"
    refine ixT hp rfl (ixT hp rfl ⟨smallE (by simp), fun q hn => ?_⟩)
    have e1 : upd H q (.tup [.int r.t, .int r.u]) q = some (.tup [.int r.t, .int r.u]) := upd_same
    refine ⟨⟨_, SqT.of e1⟩, for_tup (K := K) (xs := [.int r.t, .int r.u]) (fun i σ H2 => H2 = upd H q (.tup [.int r.t, .int r.u]) ∧ ∃ v, σ = [some (.ref p), v]) ⟨rfl, _, rfl⟩ (fun i σ H2 _ z => by rw [z.1]; exact SqT.of e1) ?_ ?_⟩
    · rintro i x σ H2 hi ⟨rfl, v, rfl⟩
      have hx : ∃ n : Int, x = .int n ∧ 2 ≤ n ∧ n ≤ 1000000 := by
        match i, hi with
        | 0, hi => exact ⟨r.t, by simpa using hi.symm, t0, t1⟩
        | 1, hi => exact ⟨r.u, by simpa using hi.symm, u0, u1⟩
      obtain ⟨n, rfl, n0, n1⟩ := hx
      walk_at "rd"
      rw [if_pos n0, if_neg (by omega)]
      exact ⟨_, rfl⟩
    · rintro σ H2 ⟨rfl, v, rfl⟩
      exact k _ (Same.new _ hn)
/-! #### Web.__init__ -/
/-- the attributes of a web -/
def wflds (m : Int) (t : Addr) : List (Str × V) := putF "roads" (.ref t) (putF "many" (.int m) [])
theorem ne_mr : ¬ (("many" : Str) = "roads") := by decide +kernel
theorem wflds_many (m : Int) (t : Addr) : (wflds m t).lookup ("many" : Str) = some (.int m) := by
  unfold wflds
  rw [lookup_putF, if_neg ne_mr, lookup_putF, if_pos rfl]
theorem wflds_roads (m : Int) (t : Addr) : (wflds m t).lookup ("roads" : Str) = some (.ref t) := by
  unfold wflds
  rw [lookup_putF, if_pos rfl]
/-- a web of m places and the roads rs stands at p, its tuple at t, the roads' tuples at ps -/
structure WebAt (C : Addr) (H : Hp) (p : Addr) (m : Int) (t : Addr) (ps : List Addr) (rs : List Road) : Prop where
  ob : ∃ dx, H p = some (.ins C dx (wflds m t))
  tu : H t = some (.tup (ps.map V.ref))
  ro : RoadsAt H ps rs
  go : Good m rs
theorem WebAt.same {C : Addr} {H H' : Hp} {p : Addr} {m : Int} {t : Addr} {ps : List Addr} {rs : List Road} (e : Same H H') (h : WebAt C H p m t ps rs) : WebAt C H' p m t ps rs :=
  ⟨let ⟨dx, q⟩ := h.ob; ⟨dx, e _ _ q⟩, e _ _ h.tu, RoadsAt.same e h.ro, h.go⟩
def sp_Web___init__ (T : Txt K mg) : Sp := fun vs H Q _ => ∃ (p dx : Addr) (m : Int) (c : Bool) (a : Addr) (ps : List Addr) (rs : List Road), vs = [.ref p, .int m, .ref a] ∧ H p = some (.ins T.Web dx []) ∧ SqX K c H a (ps.map V.ref) ∧ RoadsAt H ps rs ∧ Good m rs ∧
  ∀ t H', H t = none → WebAt T.Web H' p m t ps rs → (∀ b o, H b = some o → b ≠ p → H' b = some o) → Q .non H'
abbrev s_Web___init__ : Stmt := inClass (top 15) 0
theorem sc_Web___init__ : FnScope ["self", "many", "roads", "kept", "road"] ["self", "many", "roads"] (defScope s_Web___init__) := FnScope.of (by kernel_rfl)
theorem n_Web___init____self : NmL (defScope s_Web___init__) "self" := .of (by kernel_rfl)
theorem n_Web___init____many : NmL (defScope s_Web___init__) "many" := .of (by kernel_rfl)
theorem n_Web___init____roads : NmL (defScope s_Web___init__) "roads" := .of (by kernel_rfl)
theorem n_Web___init____kept : NmL (defScope s_Web___init__) "kept" := .of (by kernel_rfl)
theorem n_Web___init____road : NmL (defScope s_Web___init__) "road" := .of (by kernel_rfl)
theorem n_Web___init____tuple : NmG (defScope s_Web___init__) "tuple" := .of (by kernel_rfl)
theorem n_Web___init____check_counts : NmG (defScope s_Web___init__) "check_counts" := .of (by kernel_rfl)
theorem n_Web___init____check_ends : NmG (defScope s_Web___init__) "check_ends" := .of (by kernel_rfl)
theorem n_Web___init____check_tolls : NmG (defScope s_Web___init__) "check_tolls" := .of (by kernel_rfl)
theorem n_Web___init____check_joined : NmG (defScope s_Web___init__) "check_joined" := .of (by kernel_rfl)

theorem ok_Web___init__ (T : Txt K mg) (hq : Quiet (CXe P w)) {f : Addr} {fd : FuncData} (F : Fun K "__init__" "Web.__init__" s_Web___init__ f fd) {f_check_counts : Addr} {fd_check_counts : FuncData} (D_check_counts : Df K mg "check_counts" s_check_counts ["many", "roads"] f_check_counts fd_check_counts) (G_check_counts : FnOk P w K mg base (CXe P w) 1 f_check_counts fd_check_counts ["many", "roads"] (sp_check_counts T)) {f_check_ends : Addr} {fd_check_ends : FuncData} (D_check_ends : Df K mg "check_ends" s_check_ends ["many", "road"] f_check_ends fd_check_ends) (G_check_ends : FnOk P w K mg base (CXe P w) 2 f_check_ends fd_check_ends ["many", "road"] (sp_check_ends T)) {f_check_joined : Addr} {fd_check_joined : FuncData} (D_check_joined : Df K mg "check_joined" s_check_joined ["many", "roads"] f_check_joined fd_check_joined) (G_check_joined : FnOk P w K mg base (CXe P w) 2 f_check_joined fd_check_joined ["many", "roads"] (sp_check_joined T)) {f_check_tolls : Addr} {fd_check_tolls : FuncData} (D_check_tolls : Df K mg "check_tolls" s_check_tolls ["road"] f_check_tolls fd_check_tolls) (G_check_tolls : FnOk P w K mg base (CXe P w) 1 f_check_tolls fd_check_tolls ["road"] (sp_check_tolls T)) : FnOk P w K mg base (CXe P w) 3 f fd ["self", "many", "roads"] (sp_Web___init__ T) := by
  refine F.okC sc_Web___init__ (fun vs H Q E h => ?_) (fun cdv A outer s H vs Q E hr h => ?_)
  · obtain ⟨p, dx, m, c, a, ps, rs, rfl, _⟩ := h
    rfl
  · obtain ⟨p, dx, m, c, a, ps, rs, rfl, hp, ha, hro, g, k⟩ := h
    refine ⟨_, (pss_cons (ps_set (i := 3) sc_Web___init__.nd rfl (Or.inl n_Web___init____kept.l) (pe_callTy call_tuple_of n_Web___init____tuple.g T.tuple pb_tuple (pa_cons (pe_comp rfl (ct_plain (Nc := ["road"]) 1 (by decide +kernel) (by decide +kernel) rfl (by decide +kernel) rfl) (pi_any c (pvl 2 n_Web___init____roads)) (fun _ _ _ _ => (pg_name (i := 0) (show (["road"] : List Str).Nodup from by decide +kernel) rfl (Or.inl rfl))) (fun _ _ _ _ => pts_nil) (fun _ _ _ _ => (pe_callTy (call_tuple_ofK K rfl) (by rfl) T.tuple pb_tuple (pa_cons (pv 0) pa_nil)))) pa_nil) (hn := n_Web___init____tuple.n) (hdb := n_Web___init____tuple.d))) (pss_cons (ps_expr (pe_call G_check_counts (hr.mono (by decide)) n_Web___init____check_counts.g D_check_counts.m D_check_counts.F.kp D_check_counts.b .nil (passQ hq) (pa_cons (pvl 1 n_Web___init____many) (pa_cons (pvl 3 n_Web___init____kept) pa_nil)) (hdb := n_Web___init____check_counts.d))) (pss_cons (ps_for PassesOwn.never rfl (pi_tup (pvl 3 n_Web___init____kept)) (pg_name (i := 4) sc_Web___init__.nd rfl (Or.inl n_Web___init____road.l)) (pss_cons (ps_expr (pe_call G_check_ends (hr.mono (by decide)) n_Web___init____check_ends.g D_check_ends.m D_check_ends.F.kp D_check_ends.b .nil (passQ hq) (pa_cons (pvl 1 n_Web___init____many) (pa_cons (pvl 4 n_Web___init____road) pa_nil)) (hdb := n_Web___init____check_ends.d))) (pss_one (ps_expr (pe_call G_check_tolls (hr.mono (by decide)) n_Web___init____check_tolls.g D_check_tolls.m D_check_tolls.F.kp D_check_tolls.b .nil (passQ hq) (pa_cons (pvl 4 n_Web___init____road) pa_nil) (hdb := n_Web___init____check_tolls.d)))))) (pss_cons (ps_expr (pe_call G_check_joined (hr.mono (by decide)) n_Web___init____check_joined.g D_check_joined.m D_check_joined.F.kp D_check_joined.b .nil (passQ hq) (pa_cons (pvl 1 n_Web___init____many) (pa_cons (pvl 3 n_Web___init____kept) pa_nil)) (hdb := n_Web___init____check_joined.d))) (pss_cons (ps_fld (pvl 0 n_Web___init____self) (pvl 1 n_Web___init____many) rfl) (pss_one (ps_fld (pvl 0 n_Web___init____self) (pvl 3 n_Web___init____kept) rfl))))))), ?_⟩
    rw [show L2.start ["self", "many", "roads", "kept", "road"] [V.ref p, V.int m, V.ref a] = [some (V.ref p), some (V.int m), some (V.ref a), none, none] from rfl]
    walk_at "rd"
    refine ⟨⟨_, ha⟩, fun l hl => ?_⟩
    have hlen : ps.length = rs.length := Paired.length hro
    have glen := g.len
    have m24 := g.m24
    have hl1 : Same H (upd H l (.lst [])) := Same.new _ hl
    refine comp_any (K := K) (xs := ps.map V.ref) (fun i ys σ H2 => H2 = upd H l (.lst ((ps.take i).map V.ref)) ∧ ys = (ps.take i).map V.ref ∧ ∃ v, σ = [v]) ⟨rfl, rfl, _, rfl⟩ (fun i ys σ H2 _ ⟨z, _⟩ => by rw [z]; exact Same.sqX (Same.new _ hl) ha) ?_ ?_
    · rintro i x ys σ H2 N hN hi ⟨rfl, rfl, v, rfl⟩
      obtain ⟨q, r, rfl, h1, h2, h3⟩ := hro.get hi
      have nq : q ≠ l := ne_of_none h3 hl
      have hil : i < ps.length := (List.getElem?_eq_some_iff.mp h1).1
      have et : ps.take (i + 1) = ps.take i ++ [q] := by rw [List.take_succ, h1]; rfl
      walk_at "rd"
      refine ⟨vRoad r, .inr ⟨SqT.of (by rw [upd_ne nq]; exact h3), upd_same, small (by rw [List.length_map, List.length_take]; omega), hN _ _ _ ⟨?_, ?_, _, rfl⟩⟩⟩
      · rw [upd_upd, et, List.map_append]; rfl
      · rw [et, List.map_append]; rfl
    · rintro ys σ H2 ⟨rfl, rfl, v, rfl⟩
      rw [List.length_map, List.take_length]
      refine ⟨l, rfl, ps.map V.ref, .inl ⟨SqL.of upd_same, fun t ht => ?_⟩⟩
      have s1 : Same H (upd H l (.lst (ps.map V.ref))) := Same.new _ hl
      have s2 : Same (upd H l (.lst (ps.map V.ref))) (upd (upd H l (.lst (ps.map V.ref))) t (.tup (ps.map V.ref))) := Same.new _ ht
      have ht0 : H t = none := s1.free ht
      have ht1 : ∀ {H' : Hp}, Same (upd (upd H l (.lst (ps.map V.ref))) t (.tup (ps.map V.ref))) H' → H' t = some (.tup (ps.map V.ref)) := fun e => e _ _ upd_same
      refine ⟨m, t, ps.map V.ref, rfl, SqT.of upd_same, g.m1, g.m24, by rw [List.length_map]; omega, ⟨_, SqT.of upd_same⟩, ?_⟩
      refine for_tupN (K := K) (xs := ps.map V.ref) (fun i σ H3 => Same (upd (upd H l (.lst (ps.map V.ref))) t (.tup (ps.map V.ref))) H3 ∧ ∃ v, σ = [some (.ref p), some (.int m), some (.ref a), some (.ref t), v]) ⟨Same.refl _, _, rfl⟩ (fun i σ H3 _ ⟨z, _⟩ => SqT.of (ht1 z)) ?_ ?_
      · rintro i x σ H3 N hN hi ⟨s3, v, rfl⟩
        have s03 := s1.trans (s2.trans s3)
        obtain ⟨q, r, rfl, h1, h2, h3⟩ := hro.get hi
        have ok := g.ok r (List.mem_of_getElem? h2)
        walk_at "rd"
        refine ⟨m, q, r, rfl, s03 _ _ h3, ok.a0, ok.a1, ok.b0, ok.b1, ok.ne, ?_⟩
        exact ⟨q, r, rfl, s03 _ _ h3, ok.t0, ok.t1, ok.u0, ok.u1, fun H4 s4 => hN _ _ ⟨s3.trans s4, _, rfl⟩⟩
      · rintro σ H3 ⟨s3, v, rfl⟩
        have s03 := s1.trans (s2.trans s3)
        walk_at "rd"
        refine ⟨m, t, ps, rs, rfl, SqT.of (ht1 s3), RoadsAt.same s03 hro, g, fun H4 s4 => ?_⟩
        have s04 := s03.trans s4
        have ntp : t ≠ p := fun z => by rw [z, hp] at ht0; cases ht0
        refine ⟨T.Web, dx, [], s04 _ _ hp, T.cl_Web, T.n_many, by decide, ?_⟩
        refine ⟨T.Web, dx, _, upd_same, T.cl_Web, T.n_roads, by show 1 < 1000; decide, ?_⟩
        rw [upd_upd]
        refine k t _ ht0 ⟨⟨dx, upd_same⟩, ?_, ?_, g⟩ fun b o hb nb => ?_
        · rw [upd_ne ntp]; exact ht1 (s3.trans s4)
        · refine Paired.imp' (fun q r hq => ?_) hro
          rw [upd_ne (ne_of hq hp (by intro z; cases z))]
          exact s04 _ _ hq
        · rw [upd_ne nb]; exact s04 _ _ hb
/-- Web(m, roads), at a call: nothing is changed, a new web stands -/
theorem mk_web (T : Txt K mg) {H : Hp} {m : Int} {c : Bool} {a : Addr} {ps : List Addr} {rs : List Road} {Q : Addr → Hp → Prop} (ha : SqX K c H a (ps.map V.ref)) (ro : RoadsAt H ps rs) (g : Good m rs)
    (k : ∀ x t H', H x = none → H t = none → Same H H' → WebAt T.Web H' x m t ps rs → Q x H') :
    ∀ x dx, H x = none → H dx = none → dx ≠ x → sp_Web___init__ T [.ref x, .int m, .ref a] (upd (upd H dx (.own x)) x (.ins T.Web dx [])) (fun v H2 => v = .non ∧ Q x H2) E0 := by
  intro x dx hx hdx ne
  have hx1 : upd H dx (.own x) x = none := by rw [upd_ne ne.symm]; exact hx
  have s0 : Same H (upd (upd H dx (.own x)) x (.ins T.Web dx [])) := (Same.new _ hdx).trans (Same.new _ hx1)
  exact ⟨x, dx, m, c, a, ps, rs, rfl, upd_same, Same.sqX s0 ha, RoadsAt.same s0 ro, g, fun t H' ht W kp => ⟨rfl, k x t H' hx (s0.free ht) (fun b o e => kp b o (s0 b o e) (ne_of_none e hx)) W⟩⟩
/-! #### _law_tolls -/
/-- the dict of the tolls of the first roads -/
def TollsOf (H : Hp) (d : Addr) (rs : List Road) (n : Nat) : Prop := ∃ kvs, H d = some (.dT kvs) ∧ (kvs.length ≤ 2 * n ∧ ∀ p ∈ kvs, ∃ a b : Int, p.1 = [.inl a, .inl b]) ∧ ∀ a b : Int, (∀ i x, i < n → rs[i]? = some x → Joins x a b → valV kvs [.inl a, .inl b] = (toll1 a b x).map V.int) ∧ ((∀ i x, i < n → rs[i]? = some x → ¬ Joins x a b) → valV kvs [.inl a, .inl b] = none)
/-- the dict of the tolls of a web -/
structure TollsAt (H : Hp) (d : Addr) (rs : List Road) : Prop where
  ex : ∃ kvs, H d = some (.dT kvs) ∧ ∀ a b : Int, valV kvs [.inl a, .inl b] = (tollOf rs a b).map V.int
  ks : ∃ kvs, H d = some (.dT kvs) ∧ kvs.length ≤ 2 * rs.length ∧ ∀ p ∈ kvs, ∃ a b : Int, p.1 = [.inl a, .inl b]
theorem TollsAt.same {H H' : Hp} {d : Addr} {rs : List Road} (e : Same H H') (h : TollsAt H d rs) : TollsAt H' d rs := by
  obtain ⟨kvs, h1, h2⟩ := h.ex
  obtain ⟨kws, h3, h4⟩ := h.ks
  exact ⟨⟨kvs, e _ _ h1, h2⟩, ⟨kws, e _ _ h3, h4⟩⟩
def sp_law_tolls (T : Txt K mg) : Sp := fun vs H Q _ => ∃ (l : Addr) (ps : List Addr) (m : Int) (rs : List Road), vs = [.ref l] ∧ H l = some (.lst (ps.map V.ref)) ∧ RoadsAt H ps rs ∧ Good m rs ∧ ∀ d H', H d = none → Same H H' → TollsAt H' d rs → Q (.ref d) H'
abbrev s_law_tolls : Stmt := top 40
theorem sc_law_tolls : FnScope ["roads", "tolls", "one", "other", "there", "back"] ["roads"] (defScope s_law_tolls) := FnScope.of (by kernel_rfl)
theorem n_law_tolls__roads : NmL (defScope s_law_tolls) "roads" := .of (by kernel_rfl)
theorem n_law_tolls__tolls : NmL (defScope s_law_tolls) "tolls" := .of (by kernel_rfl)
theorem n_law_tolls__one : NmL (defScope s_law_tolls) "one" := .of (by kernel_rfl)
theorem n_law_tolls__other : NmL (defScope s_law_tolls) "other" := .of (by kernel_rfl)
theorem n_law_tolls__there : NmL (defScope s_law_tolls) "there" := .of (by kernel_rfl)
theorem n_law_tolls__back : NmL (defScope s_law_tolls) "back" := .of (by kernel_rfl)

theorem ok_law_tolls (T : Txt K mg) (hq : Quiet (CXe P w)) {f : Addr} {fd : FuncData} (D : Df K mg "_law_tolls" s_law_tolls ["roads"] f fd) : FnOk P w K mg base (CXe P w) 1 f fd ["roads"] (sp_law_tolls T) := by
  refine D.F.okC sc_law_tolls (fun vs H Q E h => ?_) (fun cdv A outer s H vs Q E hr h => ?_)
  · obtain ⟨l, ps, m, rs, rfl, _⟩ := h
    rfl
  · obtain ⟨l, ps, m, rs, rfl, hl, ro, g, k⟩ := h
    have hu := hu_of hr
    refine ⟨_, (pss_cons (ps_set (i := 1) sc_law_tolls.nd rfl (Or.inl n_law_tolls__tolls.l) pe_dnewT) (pss_cons (ps_for PassesOwn.never rfl (pi_list (pvl 0 n_law_tolls__roads)) (pg_tup (n := 4) rfl (pgs_cons (pg_name (i := 2) sc_law_tolls.nd rfl (Or.inl n_law_tolls__one.l)) (pgs_cons (pg_name (i := 3) sc_law_tolls.nd rfl (Or.inl n_law_tolls__other.l)) (pgs_cons (pg_name (i := 4) sc_law_tolls.nd rfl (Or.inl n_law_tolls__there.l)) (pgs_cons (pg_name (i := 5) sc_law_tolls.nd rfl (Or.inl n_law_tolls__back.l)) pgs_nil))))) (pss_cons (ps_dput hu (pvl 1 n_law_tolls__tolls) (pe_tup (pa_cons (pvl 2 n_law_tolls__one) (pa_cons (pvl 3 n_law_tolls__other) pa_nil))) (pvl 4 n_law_tolls__there) rfl) (pss_one (ps_dput hu (pvl 1 n_law_tolls__tolls) (pe_tup (pa_cons (pvl 3 n_law_tolls__other) (pa_cons (pvl 2 n_law_tolls__one) pa_nil))) (pvl 5 n_law_tolls__back) rfl)))) (pss_one (ps_ret (pvl 1 n_law_tolls__tolls))))), ?_⟩
    rw [show L2.start ["roads", "tolls", "one", "other", "there", "back"] [V.ref l] = [some (V.ref l), none, none, none, none, none] from rfl]
    walk_at "rd"
    intro d hd
    have s0 := Same.new (.dT []) hd
    have hlen : ps.length = rs.length := Paired.length ro
    have glen := g.len
    have m24 := g.m24
    refine ⟨⟨_, SqL.of (s0 _ _ hl)⟩, ?_⟩
    refine for_listN (K := K) (xs := ps.map V.ref) (fun i σ H2 => Same H H2 ∧ TollsOf H2 d rs i ∧ ∃ v1 v2 v3 v4, σ = [some (V.ref l), some (V.ref d), v1, v2, v3, v4]) ⟨s0, ⟨[], upd_same, ⟨by simp, fun p hp => nomatch hp⟩, fun a b => ⟨fun i x hi => absurd hi (Nat.not_lt_zero _), fun _ => rfl⟩⟩, _, _, _, _, rfl⟩ (fun i σ H2 _ z => SqL.of (z.1 _ _ hl)) ?_ ?_
    · rintro i x σ H2 N hN hx ⟨s2, ⟨kvs, hk, ⟨hkl, hks⟩, hkv⟩, v1, v2, v3, v4, rfl⟩
      obtain ⟨q, r, rfl, h1, h2, h3⟩ := ro.get hx
      have hil : i < rs.length := (List.getElem?_eq_some_iff.mp h2).1
      have ok := g.ok r (List.mem_of_getElem? h2)
      walk_at "rd"
      refine ⟨_, SqT.of (s2 _ _ h3), rfl, _, _, rfl, _, _, rfl, _, _, rfl, _, _, rfl, rfl, ?_⟩
      refine ⟨smallE (by simp), fun p1 n1 => ⟨_, DPut.t (k := [.inl r.a, .inl r.b]) (Same.new (.tup [V.int r.a, V.int r.b]) n1 _ _ hk) upd_same (small (by omega)), smallE (by simp), fun p2 n2 => ?_⟩⟩
      have l1 := length_putK kvs [Sum.inl r.a, Sum.inl r.b] (V.int r.t)
      have np2 : d ≠ p2 := fun z => by rw [← z, upd_same] at n2; cases n2
      refine ⟨_, DPut.t (k := [.inl r.b, .inl r.a]) (by rw [upd_ne np2]; exact upd_same) upd_same (small (by omega)), hN _ _ ⟨?_, ⟨_, upd_same, ?_, ?_⟩, _, _, _, _, rfl⟩⟩
      · intro b o hb
        have nd : b ≠ d := ne_of_none hb hd
        have b2 := s2 _ _ hb
        have nb1 : b ≠ p1 := ne_of_none b2 n1
        have b3 : upd (upd H2 p1 (.tup [V.int r.a, V.int r.b])) d (.dT (putK kvs [Sum.inl r.a, Sum.inl r.b] (V.int r.t))) b = some o := by rw [upd_ne nd, upd_ne nb1]; exact b2
        rw [upd_ne nd, upd_ne (ne_of_none b3 n2)]
        exact b3
      · have l2 := length_putK (putK kvs [Sum.inl r.a, Sum.inl r.b] (V.int r.t)) [Sum.inl r.b, Sum.inl r.a] (V.int r.u)
        refine ⟨by omega, fun p hp => ?_⟩
        rcases mem_putK hp with e | ⟨q, hq, e⟩
        · exact ⟨_, _, e⟩
        rcases mem_putK hq with e' | ⟨q', hq', e'⟩
        · exact ⟨_, _, e.trans e'⟩
        · obtain ⟨a', b', e2⟩ := hks q' hq'
          exact ⟨a', b', e.trans (e'.trans e2)⟩
      · intro a' b'
        have v2 : valV (putK (putK kvs [Sum.inl r.a, Sum.inl r.b] (V.int r.t)) [Sum.inl r.b, Sum.inl r.a] (V.int r.u)) [Sum.inl a', Sum.inl b'] = if a' = r.b ∧ b' = r.a then some (V.int r.u) else if a' = r.a ∧ b' = r.b then some (V.int r.t) else valV kvs [Sum.inl a', Sum.inl b'] := by
          rw [valV_put, valV_put]
          simp
        rw [v2]
        have away : ¬ Joins r a' b' → (if a' = r.b ∧ b' = r.a then some (V.int r.u) else if a' = r.a ∧ b' = r.b then some (V.int r.t) else valV kvs [Sum.inl a', Sum.inl b']) = valV kvs [Sum.inl a', Sum.inl b'] := fun z => by
          rw [if_neg (fun w => z (.inr ⟨w.1.symm, w.2.symm⟩)), if_neg (fun w => z (.inl ⟨w.1.symm, w.2.symm⟩))]
        constructor
        · intro j x hj hy jx
          by_cases e : j = i
          · subst e
            rw [h2] at hy
            cases hy
            rcases jx with ⟨w1, w2⟩ | ⟨w1, w2⟩
            · subst w1 w2
              rw [if_neg (fun z => ok.ne z.1), if_pos ⟨rfl, rfl⟩, toll_fwd ok.ne]
              rfl
            · subst w1 w2
              rw [if_pos ⟨rfl, rfl⟩, toll_bwd ok.ne]
              rfl
          · rw [away fun w => e (pair_once g hy h2 jx w)]
            exact (hkv a' b').1 j x (by omega) hy jx
        · intro z
          rw [away (z i r (by omega) h2)]
          exact (hkv a' b').2 fun j x hj hx => z j x (by omega) hx
    · rintro σ H2 ⟨s2, ⟨kvs, hk, ⟨hkl, hks⟩, hkv⟩, v1, v2, v3, v4, rfl⟩
      rw [List.length_map, hlen] at hkv
      walk_at "rd"
      refine k d H2 hd s2 ⟨⟨kvs, hk, fun a b => ?_⟩, ⟨kvs, hk, by rw [List.length_map, hlen] at hkl; exact hkl, hks⟩⟩
      by_cases z : ∃ (i : Nat) (x : Road), rs[i]? = some x ∧ Joins x a b
      · obtain ⟨i, x, hi, j⟩ := z
        rw [(hkv a b).1 i x (List.getElem?_eq_some_iff.mp hi).1 hi j, tollOf_at g hi j]
      · rw [(hkv a b).2 fun i x _ hi j => z ⟨i, x, hi, j⟩, tollOf_no]
        · rfl
        · rintro ⟨x, hx, j⟩
          obtain ⟨i, hi⟩ := List.getElem?_of_mem hx
          exact z ⟨i, x, hi, j⟩
/-! #### _law_part -/
def sp_law_part (T : Txt K mg) : Sp := fun vs H Q _ => ∃ (i j : Int), vs = [.int i, .int j] ∧ 0 ≤ i ∧ 0 ≤ j ∧ Q (.int (i.gcd j : Int)) H
abbrev s_law_part : Stmt := top 43
theorem sc_law_part : FnScope ["one", "other", "rest"] ["one", "other"] (defScope s_law_part) := FnScope.of (by kernel_rfl)
theorem n_law_part__one : NmL (defScope s_law_part) "one" := .of (by kernel_rfl)
theorem n_law_part__other : NmL (defScope s_law_part) "other" := .of (by kernel_rfl)
theorem n_law_part__rest : NmL (defScope s_law_part) "rest" := .of (by kernel_rfl)

theorem ok_law_part (T : Txt K mg) (hq : Quiet (CXe P w)) {f : Addr} {fd : FuncData} (D : Df K mg "_law_part" s_law_part ["one", "other"] f fd) : FnOk P w K mg base (CXe P w) 1 f fd ["one", "other"] (sp_law_part T) := by
  refine D.F.okC sc_law_part (fun vs H Q E h => ?_) (fun cdv A outer s H vs Q E hr h => ?_)
  · obtain ⟨i, j, rfl, _⟩ := h
    rfl
  · obtain ⟨i, j, rfl, i0, j0, k⟩ := h
    refine ⟨_, (pss_cons (ps_while PassesOwn.never (pt_cmpR op_gt (pvl 1 n_law_part__other) pe_int (nomark _)) (pss_cons (ps_set (i := 2) sc_law_part.nd rfl (Or.inl n_law_part__rest.l) (pe_op op_mod (pvl 0 n_law_part__one) (pvl 1 n_law_part__other))) (pss_cons (ps_set (i := 0) sc_law_part.nd rfl (Or.inl n_law_part__one.l) (pvl 1 n_law_part__other)) (pss_one (ps_set (i := 1) sc_law_part.nd rfl (Or.inl n_law_part__other.l) (pvl 2 n_law_part__rest)))))) (pss_one (ps_ret (pvl 0 n_law_part__one)))), ?_⟩
    rw [show L2.start ["one", "other", "rest"] [V.int i, V.int j] = [some (V.int i), some (V.int j), none] from rfl]
    refine cutS fun N1 h1 => ?_
    refine while_H (fun n σ H' => H' = H ∧ ∃ (x y : Int) (v : Option V), n = y.toNat ∧ 0 ≤ x ∧ 0 ≤ y ∧ x.gcd y = i.gcd j ∧ σ = [some (V.int x), some (V.int y), v]) j.toNat ⟨rfl, i, j, _, rfl, i0, j0, rfl, rfl⟩ ?_
    rintro n σ H' N BB hBB hN hN2 ⟨rfl, x, y, v, rfl, x0, y0, e, rfl⟩
    refine hBB _ _ _ ?_
    walk_at "rd"
    by_cases c : 0 < y
    · rw [if_pos c]
      have h2 := Int.emod_lt_of_pos x c
      have h3 := Int.emod_nonneg x (Int.ne_of_gt c)
      refine ⟨N, fun σ' H2 w => ?_, c, hN (x % y).toNat _ _ (by omega) ⟨rfl, y, x % y, _, rfl, y0, h3, by rw [gcd_em]; exact e, rfl⟩⟩
      obtain ⟨m', lt, e1, x', y', v', e2, e3, e4, e5, e6⟩ := hN2 _ _ w
      exact ⟨m', lt, e1, x', y', e2, e3, e4, e5, v', e6⟩
    · have : y = 0 := by omega
      subst this
      rw [if_neg c]
      refine h1 _ _ ?_
      walk_at "rd"
      rw [Int.gcd_zero_right] at e
      rw [show x = (i.gcd j : Int) by omega]
      exact k
/-! #### _law_whole -/
def sp_law_whole (T : Txt K mg) : Sp := fun vs H Q _ => ∃ i : Int, vs = [.int i] ∧ Q (.bl true) H
abbrev s_law_whole : Stmt := top 42
theorem sc_law_whole : FnScope ["found"] ["found"] (defScope s_law_whole) := FnScope.of (by kernel_rfl)
theorem n_law_whole__found : NmL (defScope s_law_whole) "found" := .of (by kernel_rfl)
theorem n_law_whole__isinstance : NmG (defScope s_law_whole) "isinstance" := .of (by kernel_rfl)
theorem n_law_whole__int : NmG (defScope s_law_whole) "int" := .of (by kernel_rfl)
theorem n_law_whole__bool : NmG (defScope s_law_whole) "bool" := .of (by kernel_rfl)

theorem ok_law_whole (T : Txt K mg) (hq : Quiet (CXe P w)) {f : Addr} {fd : FuncData} (D : Df K mg "_law_whole" s_law_whole ["found"] f fd) : FnOk P w K mg base (CXe P w) 1 f fd ["found"] (sp_law_whole T) := by
  refine D.F.okC sc_law_whole (fun vs H Q E h => ?_) (fun cdv A outer s H vs Q E hr h => ?_)
  · obtain ⟨i, rfl, _⟩ := h
    rfl
  · obtain ⟨i, rfl, k⟩ := h
    refine ⟨_, (pss_one (ps_ret (pe_and (pe_callB call_isinst n_law_whole__isinstance.g T.isinstance pb_isinstance (pa_cons (pvl 0 n_law_whole__found) (pa_cons (pe_bltn (v := .ty "int") n_law_whole__int.g T.int pb_int rfl (hn := n_law_whole__int.n) (hd := n_law_whole__int.d)) pa_nil)) (hn := n_law_whole__isinstance.n) (hdb := n_law_whole__isinstance.d)) (pe_one (pe_not (pe_callB call_isinst n_law_whole__isinstance.g T.isinstance pb_isinstance (pa_cons (pvl 0 n_law_whole__found) (pa_cons (pe_bltn (v := .ty "bool") n_law_whole__bool.g T.bool pb_bool rfl (hn := n_law_whole__bool.n) (hd := n_law_whole__bool.d)) pa_nil)) (hn := n_law_whole__isinstance.n) (hdb := n_law_whole__isinstance.d))))))), ?_⟩
    rw [show L2.start ["found"] [V.int i] = [some (V.int i)] from rfl]
    walk_at "rd"
    refine ⟨_, _, _, true, rfl, .int i, fun cv h => by cases h; rfl, _, rfl, ?_⟩
    rw [if_pos rfl]
    refine ⟨_, _, _, false, rfl, .int i, fun cv h => by cases h; rfl, _, rfl, ?_⟩
    exact k
/-! #### _law_is_fraction -/
def sp_law_is_fraction (T : Txt K mg) : Sp := fun vs H Q _ => ∃ (a : Addr) (p q : Int), vs = [.ref a] ∧ H a = some (.tup [.int p, .int q]) ∧ 0 < q ∧ p.gcd q = 1 ∧ Q (.bl true) H
abbrev s_law_is_fraction : Stmt := top 45
theorem sc_law_is_fraction : FnScope ["found"] ["found"] (defScope s_law_is_fraction) := FnScope.of (by kernel_rfl)
theorem n_law_is_fraction__found : NmL (defScope s_law_is_fraction) "found" := .of (by kernel_rfl)
theorem n_law_is_fraction__isinstance : NmG (defScope s_law_is_fraction) "isinstance" := .of (by kernel_rfl)
theorem n_law_is_fraction__tuple : NmG (defScope s_law_is_fraction) "tuple" := .of (by kernel_rfl)
theorem n_law_is_fraction__len : NmG (defScope s_law_is_fraction) "len" := .of (by kernel_rfl)
theorem n_law_is_fraction__law_whole : NmG (defScope s_law_is_fraction) "_law_whole" := .of (by kernel_rfl)
theorem n_law_is_fraction__law_part : NmG (defScope s_law_is_fraction) "_law_part" := .of (by kernel_rfl)
theorem n_law_is_fraction__abs : NmG (defScope s_law_is_fraction) "abs" := .of (by kernel_rfl)

theorem ok_law_is_fraction (T : Txt K mg) (hq : Quiet (CXe P w)) {f : Addr} {fd : FuncData} (D : Df K mg "_law_is_fraction" s_law_is_fraction ["found"] f fd) {f_law_part : Addr} {fd_law_part : FuncData} (D_law_part : Df K mg "_law_part" s_law_part ["one", "other"] f_law_part fd_law_part) (G_law_part : FnOk P w K mg base (CXe P w) 1 f_law_part fd_law_part ["one", "other"] (sp_law_part T)) {f_law_whole : Addr} {fd_law_whole : FuncData} (D_law_whole : Df K mg "_law_whole" s_law_whole ["found"] f_law_whole fd_law_whole) (G_law_whole : FnOk P w K mg base (CXe P w) 1 f_law_whole fd_law_whole ["found"] (sp_law_whole T)) : FnOk P w K mg base (CXe P w) 2 f fd ["found"] (sp_law_is_fraction T) := by
  refine D.F.okC sc_law_is_fraction (fun vs H Q E h => ?_) (fun cdv A outer s H vs Q E hr h => ?_)
  · obtain ⟨a, p, q, rfl, _⟩ := h
    rfl
  · obtain ⟨a, p, q, rfl, ha, q0, o, k⟩ := h
    refine ⟨_, (pss_cons (ps_if (PW.pt (pw_or (pt_not (pt_val (pe_callB call_isinst n_law_is_fraction__isinstance.g T.isinstance pb_isinstance (pa_cons (pvl 0 n_law_is_fraction__found) (pa_cons (pe_bltn (v := .ty "tuple") n_law_is_fraction__tuple.g T.tuple pb_tuple rfl (hn := n_law_is_fraction__tuple.n) (hd := n_law_is_fraction__tuple.d)) pa_nil)) (hn := n_law_is_fraction__isinstance.n) (hdb := n_law_is_fraction__isinstance.d)))) (pw_or (pt_cmpR op_ne (pe_callB call_len_seq n_law_is_fraction__len.g T.len pb_len (pa_cons (pvl 0 n_law_is_fraction__found) pa_nil) (hn := n_law_is_fraction__len.n) (hdb := n_law_is_fraction__len.d)) pe_int (nomark _)) (pw_or (pt_not (pt_val (pe_call G_law_whole (hr.mono (by decide)) n_law_is_fraction__law_whole.g D_law_whole.m D_law_whole.F.kp D_law_whole.b .nil (passQ hq) (pa_cons (pe_ix ix_tup (pvl 0 n_law_is_fraction__found) pe_int (fun _ _ => rfl)) pa_nil) (hdb := n_law_is_fraction__law_whole.d)))) (pw_or1 (pt_not (pt_val (pe_call G_law_whole (hr.mono (by decide)) n_law_is_fraction__law_whole.g D_law_whole.m D_law_whole.F.kp D_law_whole.b .nil (passQ hq) (pa_cons (pe_ix ix_tup (pvl 0 n_law_is_fraction__found) pe_int (fun _ _ => rfl)) pa_nil) (hdb := n_law_is_fraction__law_whole.d))))))))) (pss_one (ps_ret pe_bl)) pss_nil) (pss_one (ps_ret (pe_and (pe_cmpR op_gt (pe_ix ix_tup (pvl 0 n_law_is_fraction__found) pe_int (fun _ _ => rfl)) pe_int (nomark _)) (pe_one (pe_cmpR op_eq (pe_call G_law_part (hr.mono (by decide)) n_law_is_fraction__law_part.g D_law_part.m D_law_part.F.kp D_law_part.b .nil (passQ hq) (pa_cons (pe_callB call_abs n_law_is_fraction__abs.g T.abs pb_abs (pa_cons (pe_ix ix_tup (pvl 0 n_law_is_fraction__found) pe_int (fun _ _ => rfl)) pa_nil) (hn := n_law_is_fraction__abs.n) (hdb := n_law_is_fraction__abs.d)) (pa_cons (pe_ix ix_tup (pvl 0 n_law_is_fraction__found) pe_int (fun _ _ => rfl)) pa_nil)) (hdb := n_law_is_fraction__law_part.d)) pe_int (nomark _))))))), ?_⟩
    rw [show L2.start ["found"] [V.ref a] = [some (V.ref a)] from rfl]
    refine cutS fun N1 h1 => ?_
    walk_at "rd"
    refine ⟨_, _, _, true, rfl, .tup ha, fun cv h => by cases h; rfl, _, rfl, ?_⟩
    rw [if_neg (by decide)]
    refine ⟨_, .inr (SqT.of ha), ?_⟩
    rw [if_neg (fun z => z rfl)]
    refine ixTS (SqT.of ha) rfl ⟨p, rfl, _, rfl, ?_⟩
    rw [if_neg (by decide)]
    refine ixTS (SqT.of ha) rfl ⟨q, rfl, _, rfl, ?_⟩
    rw [if_neg (by decide)]
    refine h1 _ _ ?_
    walk_at "rd"
    refine ixTS (SqT.of ha) rfl ⟨q, rfl, ?_⟩
    rw [if_pos q0]
    refine ixTS (SqT.of ha) rfl ⟨p, rfl, ixTS (SqT.of ha) rfl ?_⟩
    rw [abs_eq]
    refine ⟨_, q, rfl, Int.natCast_nonneg _, Int.le_of_lt q0, rfl, ?_⟩
    rw [gcd_abs, o]
    exact k
/-! #### _law_fractions -/
def sp_law_fractions (T : Txt K mg) : Sp := fun vs H Q _ => ∃ (l : Addr) (qs : List Addr) (fs : List (Int × Int)) (m : Int), vs = [.ref l, .int m] ∧ H l = some (.lst (qs.map V.ref)) ∧ FrsAt H qs fs ∧ (∀ f ∈ fs, 0 < f.2 ∧ f.1.gcd f.2 = 1) ∧ (fs.length : Int) = m ∧ m ≤ 24 ∧ ∀ H', Same H H' → Q (.bl true) H'
abbrev s_law_fractions : Stmt := top 46
theorem sc_law_fractions : FnScope ["found", "many"] ["found", "many"] (defScope s_law_fractions) := FnScope.of (by kernel_rfl)
theorem n_law_fractions__found : NmL (defScope s_law_fractions) "found" := .of (by kernel_rfl)
theorem n_law_fractions__many : NmL (defScope s_law_fractions) "many" := .of (by kernel_rfl)
theorem n_law_fractions__isinstance : NmG (defScope s_law_fractions) "isinstance" := .of (by kernel_rfl)
theorem n_law_fractions__list : NmG (defScope s_law_fractions) "list" := .of (by kernel_rfl)
theorem n_law_fractions__len : NmG (defScope s_law_fractions) "len" := .of (by kernel_rfl)
theorem n_law_fractions__all : NmG (defScope s_law_fractions) "all" := .of (by kernel_rfl)

theorem ok_law_fractions (T : Txt K mg) (hq : Quiet (CXe P w)) {f : Addr} {fd : FuncData} (D : Df K mg "_law_fractions" s_law_fractions ["found", "many"] f fd) {f_law_is_fraction : Addr} {fd_law_is_fraction : FuncData} (D_law_is_fraction : Df K mg "_law_is_fraction" s_law_is_fraction ["found"] f_law_is_fraction fd_law_is_fraction) (G_law_is_fraction : FnOk P w K mg base (CXe P w) 2 f_law_is_fraction fd_law_is_fraction ["found"] (sp_law_is_fraction T)) : FnOk P w K mg base (CXe P w) 3 f fd ["found", "many"] (sp_law_fractions T) := by
  refine D.F.okC sc_law_fractions (fun vs H Q E h => ?_) (fun cdv A outer s H vs Q E hr h => ?_)
  · obtain ⟨l, qs, fs, m, rfl, _⟩ := h
    rfl
  · obtain ⟨l, qs, fs, m, rfl, hl, hf, fo, fl, m24, k⟩ := h
    refine ⟨_, (pss_cons (ps_if (PW.pt (pw_or (pt_not (pt_val (pe_callB call_isinst n_law_fractions__isinstance.g T.isinstance pb_isinstance (pa_cons (pvl 0 n_law_fractions__found) (pa_cons (pe_bltn (v := .ty "list") n_law_fractions__list.g T.list pb_list rfl (hn := n_law_fractions__list.n) (hd := n_law_fractions__list.d)) pa_nil)) (hn := n_law_fractions__isinstance.n) (hdb := n_law_fractions__isinstance.d)))) (pw_or1 (pt_cmpR op_ne (pe_callB call_len_seq n_law_fractions__len.g T.len pb_len (pa_cons (pvl 0 n_law_fractions__found) pa_nil) (hn := n_law_fractions__len.n) (hdb := n_law_fractions__len.d)) (pvl 1 n_law_fractions__many) (nomark _))))) (pss_one (ps_ret pe_bl)) pss_nil) (pss_one (ps_ret (pe_callB (call_all rfl) n_law_fractions__all.g T.all pb_all (pa_cons (pe_comp rfl (ct_plain (Nc := ["one"]) 1 (by decide +kernel) (by decide +kernel) rfl (by decide +kernel) rfl) (pi_any true (pvl 0 n_law_fractions__found)) (fun _ _ _ _ => (pg_name (i := 0) (show (["one"] : List Str).Nodup from by decide +kernel) rfl (Or.inl rfl))) (fun _ _ _ _ => pts_nil) (fun _ _ _ _ => (pe_call G_law_is_fraction (hr.mono (by decide)) (by rfl) D_law_is_fraction.m D_law_is_fraction.F.kp D_law_is_fraction.b .nil (passQ hq) (pa_cons (pv 0) pa_nil)))) pa_nil) (hn := n_law_fractions__all.n) (hdb := n_law_fractions__all.d))))), ?_⟩
    rw [show L2.start ["found", "many"] [V.ref l, V.int m] = [some (V.ref l), some (V.int m)] from rfl]
    have ql : qs.length = fs.length := Paired.length hf
    walk_at "rd"
    refine ⟨_, _, _, true, rfl, .lst hl, fun cv h => by cases h; rfl, _, rfl, ?_⟩
    rw [if_neg (by decide)]
    refine ⟨_, .inl (SqL.of hl), ?_⟩
    rw [List.length_map, if_neg (fun z => z (by omega))]
    refine ⟨⟨_, SqL.of hl⟩, fun pc nc => ?_⟩
    refine comp_any (K := K) (c := true) (xs := qs.map V.ref) (fun i zs σ H3 => Same H H3 ∧ H3 pc = some (.lst zs) ∧ zs = (List.replicate i true).map V.bl ∧ ∃ v, σ = [v]) ⟨Same.new _ nc, upd_same, rfl, _, rfl⟩ (fun i zs σ H3 _ z => SqL.of (z.1 _ _ hl)) ?_ ?_
    · rintro i x zs σ H3 N hN hx ⟨s3, e3, rfl, v, rfl⟩
      rw [List.getElem?_map] at hx
      obtain ⟨q, gq, rfl⟩ := Option.map_eq_some_iff.mp hx
      obtain ⟨f, gf, eq⟩ := pr_get hf gq
      obtain ⟨o1, o2⟩ := fo f (List.mem_of_getElem? gf)
      have il := (List.getElem?_eq_some_iff.mp gf).1
      walk_at "rd"
      refine ⟨q, f.1, f.2, rfl, s3 _ _ eq, o1, o2, e3, small (by rw [List.length_map, List.length_replicate]; omega), hN _ _ _ ⟨s3.put nc _, upd_same, ?_, _, rfl⟩⟩
      rw [List.replicate_succ', List.map_append]
      rfl
    · rintro zs σ H3 ⟨s3, e3, rfl, v, rfl⟩
      refine ⟨pc, rfl, _, SqL.of e3, ?_⟩
      rw [show (List.replicate (qs.map V.ref).length true).all id = true by rw [List.all_replicate]; simp]
      exact k _ s3
/-! #### _law_beside -/
def sp_law_beside (T : Txt K mg) : Sp := fun vs H Q _ => ∃ (d : Addr) (m : Int) (rs : List Road) (p : Int), vs = [.int m, .ref d, .int p] ∧ TollsAt H d rs ∧ 0 ≤ m ∧ m ≤ 1000 ∧ ∀ l H', H l = none → Same H H' → H' l = some (.lst ((nbrs m rs p).map V.int)) → Q (.ref l) H'
abbrev s_law_beside : Stmt := top 41
theorem sc_law_beside : FnScope ["many", "tolls", "place"] ["many", "tolls", "place"] (defScope s_law_beside) := FnScope.of (by kernel_rfl)
theorem n_law_beside__many : NmL (defScope s_law_beside) "many" := .of (by kernel_rfl)
theorem n_law_beside__tolls : NmC (defScope s_law_beside) "tolls" := .of (by kernel_rfl)
theorem n_law_beside__place : NmC (defScope s_law_beside) "place" := .of (by kernel_rfl)
theorem n_law_beside__range : NmG (defScope s_law_beside) "range" := .of (by kernel_rfl)

theorem ok_law_beside (T : Txt K mg) (hq : Quiet (CXe P w)) {f : Addr} {fd : FuncData} (D : Df K mg "_law_beside" s_law_beside ["many", "tolls", "place"] f fd) : FnOk P w K mg base (CXe P w) 1 f fd ["many", "tolls", "place"] (sp_law_beside T) := by
  refine D.F.okC sc_law_beside (fun vs H Q E h => ?_) (fun cdv A outer s H vs Q E hr h => ?_)
  · obtain ⟨d, m, rs, p, rfl, _⟩ := h
    rfl
  · obtain ⟨d, m, rs, p, rfl, ta, m0, m1, k⟩ := h
    have hu := hu_of hr
    obtain ⟨kvs, hk, hv⟩ := ta.ex
    refine ⟨_, (pss_one (ps_ret (pe_comp rfl (ct_clos (Nc := ["other", "tolls", "place"]) 1 [1, 2] (by decide +kernel) rfl (by decide +kernel) rfl (by show ∀ (y : Str × NameKind), y ∈ _ → y.2 = NameKind.free → (defScope s_law_beside).names.lookup y.1 = some NameKind.cell; decide +kernel) rfl (fun _ h => cell_has h) (fun i hi => match i, hi with | 0, _ => ⟨"tolls", 1, rfl, rfl, rfl, by decide +kernel⟩ | 1, _ => ⟨"place", 2, rfl, rfl, rfl, by decide +kernel⟩ | i + 2, hi => absurd hi (by show ¬ i + 2 < 2; omega))) (pi_range1 n_law_beside__range.g T.range (pa_cons (pvl 0 n_law_beside__many) pa_nil)) (fun _ _ _ _ => (pg_name (i := 0) (show (["other", "tolls", "place"] : List Str).Nodup from by decide +kernel) rfl (Or.inl rfl))) (fun _ _ _ _ => (pts_one (pt_cmp (pc_din hu (pe_tup (pa_cons (pv 2) (pa_cons (pv 0) pa_nil))) (pv 1))))) (fun _ _ _ _ => (pv 0))))), ?_⟩
    rw [show L2.start ["many", "tolls", "place"] [V.int m, V.ref d, V.int p] = [some (V.int m), some (V.ref d), some (V.int p)] from rfl]
    walk_at "rd"
    refine ⟨by omega, by omega, fun l hl => ?_⟩
    refine comp_range (lo := 0) (n := m.toNat) (fun i ys σ H2 => Same H H2 ∧ H2 l = some (.lst ys) ∧ ys = (((below i).filter fun q => (tollOf rs p q).isSome).map V.int) ∧ ∃ v, σ = [v, some (V.ref d), some (V.int p)]) ⟨Same.new _ hl, upd_same, rfl, _, rfl⟩ ?_ ?_
    · rintro i ys σ H2 N hN hi ⟨s2, h2, rfl, v, rfl⟩
      walk_at "rd"
      refine ⟨smallE (by simp), fun q nq => ?_⟩
      have s3 := Same.new (.tup [V.int p, V.int (0 + (i : Int))]) nq
      have ll : ((List.filter (fun q => (tollOf rs p q).isSome) (below i)).map V.int).length < sizeLine := by
        rw [List.length_map]
        have a1 := List.length_filter_le (fun q => (tollOf rs p q).isSome) (below i)
        rw [below_length] at a1
        exact small (by omega)
      have bs : below (i + 1) = below i ++ [(i : Int)] := by unfold below; rw [List.range_succ, List.map_append]; rfl
      have hg := DGet.t (k := [.inl p, .inl (0 + (i : Int))]) (s3 _ _ (s2 _ _ hk)) upd_same
      rw [hv] at hg
      refine ⟨_, hg, ?_⟩
      have ez : (0 : Int) + (i : Int) = (i : Int) := by omega
      rw [ez] at hg s3 ⊢
      cases q' : tollOf rs p (i : Int) with
      | none =>
        refine hN _ _ _ ⟨s2.trans s3, s3 _ _ h2, ?_, _, rfl⟩
        rw [bs, List.filter_append]
        simp [q']
      | some t =>
        refine ⟨s3 _ _ h2, ll, hN _ _ _ ⟨?_, upd_same, ?_, _, rfl⟩⟩
        · intro b o hb
          rw [upd_ne (ne_of_none hb hl)]
          exact s3 _ _ (s2 _ _ hb)
        · rw [bs, List.filter_append]
          simp [q']
    · rintro ys σ H2 ⟨s2, h2, rfl, v, rfl⟩
      rw [← nbrs_toll] at h2
      exact k l H2 hl s2 h2
/-! #### _law_fraction -/
def sp_law_fraction (T : Txt K mg) : Sp := fun vs H Q _ => ∃ (i j : Int), vs = [.int i, .int j] ∧ 0 < j ∧ j.natAbs < 2 ^ 4000 ∧ ∀ (p q : Int) (r : Addr), Frc i j p q → H r = none → Q (.ref r) (upd H r (.tup [.int p, .int q]))
abbrev s_law_fraction : Stmt := top 44
theorem sc_law_fraction : FnScope ["top", "bottom", "part"] ["top", "bottom"] (defScope s_law_fraction) := FnScope.of (by kernel_rfl)
theorem n_law_fraction__top : NmL (defScope s_law_fraction) "top" := .of (by kernel_rfl)
theorem n_law_fraction__bottom : NmL (defScope s_law_fraction) "bottom" := .of (by kernel_rfl)
theorem n_law_fraction__part : NmL (defScope s_law_fraction) "part" := .of (by kernel_rfl)
theorem n_law_fraction__law_part : NmG (defScope s_law_fraction) "_law_part" := .of (by kernel_rfl)
theorem n_law_fraction__abs : NmG (defScope s_law_fraction) "abs" := .of (by kernel_rfl)

theorem ok_law_fraction (T : Txt K mg) (hq : Quiet (CXe P w)) {f : Addr} {fd : FuncData} (D : Df K mg "_law_fraction" s_law_fraction ["top", "bottom"] f fd) {f_law_part : Addr} {fd_law_part : FuncData} (D_law_part : Df K mg "_law_part" s_law_part ["one", "other"] f_law_part fd_law_part) (G_law_part : FnOk P w K mg base (CXe P w) 1 f_law_part fd_law_part ["one", "other"] (sp_law_part T)) : FnOk P w K mg base (CXe P w) 2 f fd ["top", "bottom"] (sp_law_fraction T) := by
  refine D.F.okC sc_law_fraction (fun vs H Q E h => ?_) (fun cdv A outer s H vs Q E hr h => ?_)
  · obtain ⟨i, j, rfl, _⟩ := h
    rfl
  · obtain ⟨i, j, rfl, j0, jb, k⟩ := h
    refine ⟨_, (pss_cons (ps_set (i := 2) sc_law_fraction.nd rfl (Or.inl n_law_fraction__part.l) (pe_call G_law_part (hr.mono (by decide)) n_law_fraction__law_part.g D_law_part.m D_law_part.F.kp D_law_part.b .nil (passQ hq) (pa_cons (pe_callB call_abs n_law_fraction__abs.g T.abs pb_abs (pa_cons (pvl 0 n_law_fraction__top) pa_nil) (hn := n_law_fraction__abs.n) (hdb := n_law_fraction__abs.d)) (pa_cons (pvl 1 n_law_fraction__bottom) pa_nil)) (hdb := n_law_fraction__law_part.d))) (pss_one (ps_ret (pe_tup (pa_cons (pe_op op_fdivL (pvl 0 n_law_fraction__top) (pvl 2 n_law_fraction__part)) (pa_cons (pe_op op_fdivL (pvl 1 n_law_fraction__bottom) (pvl 2 n_law_fraction__part)) pa_nil)))))), ?_⟩
    rw [show L2.start ["top", "bottom", "part"] [V.int i, V.int j] = [some (V.int i), some (V.int j), none] from rfl]
    have jn : j ≠ 0 := by omega
    have gp := Int.gcd_pos_of_ne_zero_right i jn
    have gl := Int.gcd_le_natAbs_right i jn
    have fr := frc_of (t := i) (b := j) (c := (i.gcd j : Int)) jn (Int.natAbs_natCast _) ⟨fun _ => j0, fun _ => by omega⟩
    rw [Int.fdiv_eq_ediv_of_nonneg _ (by omega), Int.fdiv_eq_ediv_of_nonneg _ (by omega)] at fr
    refine cutS fun N1 h1 => ?_
    walk_at "rd"
    rw [abs_eq]
    refine ⟨_, j, rfl, Int.natCast_nonneg _, by omega, h1 _ _ ?_⟩
    rw [gcd_abs]
    walk_at "rd"
    have cd : ∀ x : Int, CDivL x (i.gcd j : Int) := fun x => ⟨by omega, log_bits (n := 4000) (by omega) (by rw [Int.natAbs_natCast]; omega) (by decide)⟩
    exact ⟨cd _, cd _, smallE (by simp), fun p np => k _ _ p fr np⟩
/-! #### _law_share -/
def sp_law_share (T : Txt K mg) : Sp := fun vs H Q _ => ∃ (d : Addr) (m u : Int) (se : Bool) (rs : List Road), vs = [.int m, .ref d, .int u, .bl se] ∧ TollsAt H d rs ∧ Good m rs ∧ 0 ≤ u ∧ u < m ∧
  ∀ (f : Int × Int) (r : Addr) (H' : Hp), 0 < f.2 → f.1.gcd f.2 = 1 → (f.1 : Rat) / f.2 = shr m rs (if se = true then sep rs else evp rs) u → H r = none → Same H H' → H' r = some (.tup [.int f.1, .int f.2]) → Q (.ref r) H'
abbrev s_law_share : Stmt := top 47
theorem sc_law_share : FnScope ["many", "tolls", "place", "second", "top", "bottom", "other", "a", "b", "less_by"] ["many", "tolls", "place", "second"] (defScope s_law_share) := FnScope.of (by kernel_rfl)
theorem n_law_share__many : NmL (defScope s_law_share) "many" := .of (by kernel_rfl)
theorem n_law_share__tolls : NmL (defScope s_law_share) "tolls" := .of (by kernel_rfl)
theorem n_law_share__place : NmL (defScope s_law_share) "place" := .of (by kernel_rfl)
theorem n_law_share__second : NmL (defScope s_law_share) "second" := .of (by kernel_rfl)
theorem n_law_share__top : NmL (defScope s_law_share) "top" := .of (by kernel_rfl)
theorem n_law_share__bottom : NmL (defScope s_law_share) "bottom" := .of (by kernel_rfl)
theorem n_law_share__other : NmL (defScope s_law_share) "other" := .of (by kernel_rfl)
theorem n_law_share__a : NmL (defScope s_law_share) "a" := .of (by kernel_rfl)
theorem n_law_share__b : NmL (defScope s_law_share) "b" := .of (by kernel_rfl)
theorem n_law_share__less_by : NmL (defScope s_law_share) "less_by" := .of (by kernel_rfl)
theorem n_law_share__law_beside : NmG (defScope s_law_share) "_law_beside" := .of (by kernel_rfl)
theorem n_law_share__law_fraction : NmG (defScope s_law_share) "_law_fraction" := .of (by kernel_rfl)

theorem ok_law_share (T : Txt K mg) (hq : Quiet (CXe P w)) {f : Addr} {fd : FuncData} (D : Df K mg "_law_share" s_law_share ["many", "tolls", "place", "second"] f fd) {f_law_beside : Addr} {fd_law_beside : FuncData} (D_law_beside : Df K mg "_law_beside" s_law_beside ["many", "tolls", "place"] f_law_beside fd_law_beside) (G_law_beside : FnOk P w K mg base (CXe P w) 1 f_law_beside fd_law_beside ["many", "tolls", "place"] (sp_law_beside T)) {f_law_fraction : Addr} {fd_law_fraction : FuncData} (D_law_fraction : Df K mg "_law_fraction" s_law_fraction ["top", "bottom"] f_law_fraction fd_law_fraction) (G_law_fraction : FnOk P w K mg base (CXe P w) 2 f_law_fraction fd_law_fraction ["top", "bottom"] (sp_law_fraction T)) : FnOk P w K mg base (CXe P w) 3 f fd ["many", "tolls", "place", "second"] (sp_law_share T) := by
  refine D.F.okC sc_law_share (fun vs H Q E h => ?_) (fun cdv A outer s H vs Q E hr h => ?_)
  · obtain ⟨d, m, u, se, rs, rfl, _⟩ := h
    rfl
  · obtain ⟨d, m, u, se, rs, rfl, td, g, u0, u1, k⟩ := h
    have hu := hu_of hr
    refine ⟨_, (pss_cons (ps_set (i := 4) sc_law_share.nd rfl (Or.inl n_law_share__top.l) pe_int) (pss_cons (ps_set (i := 5) sc_law_share.nd rfl (Or.inl n_law_share__bottom.l) pe_int) (pss_cons (ps_for PassesOwn.never rfl (pi_list (pe_call G_law_beside (hr.mono (by decide)) n_law_share__law_beside.g D_law_beside.m D_law_beside.F.kp D_law_beside.b .nil (passQ hq) (pa_cons (pvl 0 n_law_share__many) (pa_cons (pvl 1 n_law_share__tolls) (pa_cons (pvl 2 n_law_share__place) pa_nil))) (hdb := n_law_share__law_beside.d))) (pg_name (i := 6) sc_law_share.nd rfl (Or.inl n_law_share__other.l)) (pss_cons (ps_set (i := 7) sc_law_share.nd rfl (Or.inl n_law_share__a.l) (pe_dget hu (pvl 1 n_law_share__tolls) (pe_tup (pa_cons (pvl 6 n_law_share__other) (pa_cons (pvl 2 n_law_share__place) pa_nil))) (fun _ _ => rfl))) (pss_cons (ps_set (i := 8) sc_law_share.nd rfl (Or.inl n_law_share__b.l) (pe_dget hu (pvl 1 n_law_share__tolls) (pe_tup (pa_cons (pvl 2 n_law_share__place) (pa_cons (pvl 6 n_law_share__other) pa_nil))) (fun _ _ => rfl))) (pss_cons (ps_set (i := 9) sc_law_share.nd rfl (Or.inl n_law_share__less_by.l) (pe_op op_sub (pvl 8 n_law_share__b) pe_int)) (pss_cons (ps_if (pt_truth (pvl 3 n_law_share__second) (fun _ => rfl)) (pss_one (ps_set (i := 9) sc_law_share.nd rfl (Or.inl n_law_share__less_by.l) (pe_op op_sub (pvl 7 n_law_share__a) pe_int))) pss_nil) (pss_cons (ps_set (i := 4) sc_law_share.nd rfl (Or.inl n_law_share__top.l) (pe_op op_sub (pe_op op_mulB (pvl 4 n_law_share__top) (pe_op op_sub (pe_op op_mulB (pvl 7 n_law_share__a) (pvl 8 n_law_share__b)) pe_int)) (pe_op op_mulB (pvl 9 n_law_share__less_by) (pvl 5 n_law_share__bottom)))) (pss_one (ps_set (i := 5) sc_law_share.nd rfl (Or.inl n_law_share__bottom.l) (pe_op op_mulB (pvl 5 n_law_share__bottom) (pe_op op_sub (pe_op op_mulB (pvl 7 n_law_share__a) (pvl 8 n_law_share__b)) pe_int)))))))))) (pss_one (ps_ret (pe_call G_law_fraction (hr.mono (by decide)) n_law_share__law_fraction.g D_law_fraction.m D_law_fraction.F.kp D_law_fraction.b .nil (passQ hq) (pa_cons (pvl 4 n_law_share__top) (pa_cons (pvl 5 n_law_share__bottom) pa_nil)) (hdb := n_law_share__law_fraction.d))))))), ?_⟩
    rw [show L2.start ["many", "tolls", "place", "second", "top", "bottom", "other", "a", "b", "less_by"] [V.int m, V.ref d, V.int u, V.bl se] = [some (V.int m), some (V.ref d), some (V.int u), some (V.bl se), none, none, none, none, none, none] from rfl]
    have m24 := g.m24
    have m1 := g.m1
    refine cutS fun N1 h1 => ?_
    walk_at "rd"
    refine h1 _ _ (cutS fun N2 h2 => ?_)
    walk_at "rd"
    refine h2 _ _ (cutS fun N3 h3 => ?_)
    walk_at "rd"
    refine ⟨d, m, rs, u, rfl, td, by omega, by omega, fun l H1 nl s1 el => ⟨l, rfl, ⟨_, SqL.of el⟩, ?_⟩⟩
    have nbl : (nbrs m rs u).length ≤ 24 := by
      have := List.length_filter_le (fun q => decide (q ∈ ends rs u)) (below m.toNat)
      rw [below_length] at this
      have e : (nbrs m rs u).length = ((below m.toNat).filter fun q => decide (q ∈ ends rs u)).length := rfl
      omega
    refine for_listH (K := K) (xs := (nbrs m rs u).map V.int) (fun i σ H2 => Same H1 H2 ∧ ∃ (X Y : Int) (v6 v7 v8 v9 : Option V), 0 < Y ∧ X.natAbs < 2 ^ (1 + i * 41) ∧ Y.natAbs < 2 ^ (1 + i * 41) ∧ (X : Rat) / Y = 1 + rsum ((nbrs m rs u).take i) ((if se = true then sep rs else evp rs) u) * (-1) ∧ σ = [some (V.int m), some (V.ref d), some (V.int u), some (V.bl se), some (V.int X), some (V.int Y), v6, v7, v8, v9]) ⟨Same.refl _, 1, 1, _, _, _, _, by decide, by decide, by decide, ?_, rfl⟩ (fun i σ H2 _ z => SqL.of (z.1 _ _ el)) ?_ ?_
    · rw [List.take_zero, show ((1 : Int) : Rat) = 1 from rfl]
      show _ = (1 : Rat) + 0 * (-1)
      grind
    · rintro i y σ H2 N BB hBB hN hy ⟨s2, X, Y, v6, v7, v8, v9, Y0, Xb, Yb, ra, rfl⟩
      refine hBB _ _ ?_
      rw [List.getElem?_map] at hy
      obtain ⟨o, go, rfl⟩ := Option.map_eq_some_iff.mp hy
      have ad := (mem_nbrs g).mp (List.mem_of_getElem? go)
      have il := (List.getElem?_eq_some_iff.mp go).1
      obtain ⟨b, eb, b2, b6⟩ := toll_rng g ad
      obtain ⟨a, ea, a2, a6⟩ := toll_rng g ad.symm
      obtain ⟨kvs, ekv, tv⟩ := (td.same (s1.trans s2)).ex
      have ta := tv o u
      have tb := tv u o
      rw [ea] at ta
      rw [eb] at tb
      show tSeq _ _ _ _ _
      refine cutS fun M1 k1 => ?_
      walk_at "rd"
      refine ⟨smallE (by simp), fun q1 n1 => ?_⟩
      have t1 := Same.new (.tup [V.int o, V.int u]) n1
      have dg1 := DGet.t (k := [.inl o, .inl u]) (t1 _ _ ekv) (b := q1) upd_same
      rw [ta] at dg1
      refine ⟨_, dg1, k1 _ _ (cutS fun M2 k2 => ?_)⟩
      generalize upd H2 q1 (.tup [V.int o, V.int u]) = H3 at t1 ⊢
      walk_at "rd"
      refine ⟨smallE (by simp), fun q2 n2 => ?_⟩
      have t2 := t1.trans (Same.new (.tup [V.int u, V.int o]) n2)
      have dg2 := DGet.t (k := [.inl u, .inl o]) (t2 _ _ ekv) (b := q2) upd_same
      rw [tb] at dg2
      refine ⟨_, dg2, k2 _ _ (cutS fun M3 k3 => ?_)⟩
      generalize upd H3 q2 (.tup [V.int u, V.int o]) = H4 at t2 ⊢
      clear dg1 dg2 t1 n1 n2
      walk_at "rd"
      refine k3 _ _ (cutS fun M4 k4 => ?_)
      walk_at "rd"
      have go4 : M4 [some (V.int m), some (V.ref d), some (V.int u), some (V.bl se), some (V.int X), some (V.int Y), some (V.int o), some (V.int a), some (V.int b), some (V.int ((if se = true then a else b) - 1))] H4 := by
        refine k4 _ _ (cutS fun M5 k5 => ?_)
        have ab4 : 4 ≤ a * b := by have := Int.mul_le_mul a2 b2 (by decide) (by omega); omega
        have abb : (a * b).natAbs < 2 ^ 40 := mul_bits (m := 20) (n := 20) (by omega) (by omega)
        have db : (a * b - 1).natAbs < 2 ^ 40 := by omega
        have lb : ((if se = true then a else b) - 1).natAbs < 2 ^ 40 := by split <;> omega
        have c1 : (X * (a * b - 1)).natAbs < 2 ^ (1 + i * 41 + 40) := mul_bits Xb db
        have c2 : (((if se = true then a else b) - 1) * Y).natAbs < 2 ^ (40 + (1 + i * 41)) := mul_bits lb Yb
        have c3 : (Y * (a * b - 1)).natAbs < 2 ^ (1 + i * 41 + 40) := mul_bits Yb db
        have c4 : (X * (a * b - 1) - ((if se = true then a else b) - 1) * Y).natAbs < 2 ^ (1 + i * 41 + 41) := by
          rw [Int.sub_eq_add_neg]
          exact add_bits c1 (by rw [Int.natAbs_neg]; exact up_bits c2 (by omega))
        have ub : ∀ {z : Int} {n : Nat}, z.natAbs < 2 ^ n → n ≤ 4000 → z.natAbs < 2 ^ 4000 := fun h h2 => up_bits h h2
        have par : (if se = true then sep rs else evp rs) u o = (((if se = true then a else b) - 1 : Int) : Rat) / ((a * b - 1 : Int) : Rat) := by
          cases se with
          | true =>
            show sep rs u o = ((a - 1 : Int) : Rat) / _
            unfold sep tollD
            rw [ea, eb, Rat.intCast_sub, Rat.intCast_sub, Rat.intCast_mul]
            rfl
          | false =>
            show evp rs u o = ((b - 1 : Int) : Rat) / _
            unfold evp tollD
            rw [ea, eb, Rat.intCast_sub, Rat.intCast_sub, Rat.intCast_mul, Rat.mul_comm (a : Rat)]
            rfl
        walk_at "rd"
        refine ⟨mul_ok (ub (n := 20) (by omega) (by decide)) (ub (n := 20) (by omega) (by decide)), mul_ok (ub Xb (by omega)) (ub db (by decide)), mul_ok (ub lb (by decide)) (ub Yb (by omega)), k5 _ _ ?_⟩
        walk_at "rd"
        refine ⟨mul_ok (ub (n := 20) (by omega) (by decide)) (ub (n := 20) (by omega) (by decide)), mul_ok (ub Yb (by omega)) (ub db (by decide)), hN _ _ ⟨s2.trans t2, _, _, _, _, _, _, Int.mul_pos Y0 (by omega), up_bits c4 (by omega), up_bits c3 (by omega), ?_, rfl⟩⟩
        rw [List.take_succ, go, Option.toList_some, rsum_snoc, par]
        have n1 := cast_ne (Int.ne_of_gt Y0)
        have n2 := cast_ne (show a * b - 1 ≠ 0 by omega)
        rw [Rat.intCast_sub, Rat.intCast_mul, Rat.intCast_mul, Rat.intCast_mul]
        generalize ((a * b - 1 : Int) : Rat) = A at *
        generalize (((if se = true then a else b) - 1 : Int) : Rat) = B at *
        generalize rsum ((nbrs m rs u).take i) ((if se = true then sep rs else evp rs) u) = S at *
        generalize ((X : Int) : Rat) = XX at *
        generalize ((Y : Int) : Rat) = YY at *
        grind
      refine ⟨_, rfl, ?_⟩
      cases se with
      | true => rw [if_pos rfl]; exact go4
      | false => rw [if_neg (by decide)]; exact go4
    · rintro BB σ H2 hBB ⟨s2, X, Y, v6, v7, v8, v9, Y0, Xb, Yb, ra, rfl⟩
      refine hBB _ _ (h3 _ _ ?_)
      rw [List.length_map] at Yb ra
      rw [List.take_length] at ra
      walk_at "rd"
      refine ⟨X, Y, rfl, Y0, up_bits Yb (by omega), fun p q r fr nr => k (p, q) r _ fr.pos fr.one ?_ (s1.free (s2.free nr)) (s1.trans (s2.trans (Same.new _ nr))) upd_same⟩
      rw [frc_rat fr (Int.ne_of_gt Y0), ra]
      unfold shr
      grind
/-! #### _law_cell -/
def sp_law_cell (T : Txt K mg) : Sp := fun vs H Q _ => ∃ (a : Addr) (ns : List Int) (k : Int), vs = [.ref a, .int k] ∧ SqL K H a (ns.map V.int) ∧ 0 ≤ k ∧ ∀ v, 0 ≤ v → v < 10 ^ 60 → Q (.int v) H
abbrev s_law_cell : Stmt := top 33
theorem sc_law_cell : FnScope ["script", "k"] ["script", "k"] (defScope s_law_cell) := FnScope.of (by kernel_rfl)
theorem n_law_cell__script : NmL (defScope s_law_cell) "script" := .of (by kernel_rfl)
theorem n_law_cell__k : NmL (defScope s_law_cell) "k" := .of (by kernel_rfl)
theorem n_law_cell__len : NmG (defScope s_law_cell) "len" := .of (by kernel_rfl)

theorem ok_law_cell (T : Txt K mg) (hq : Quiet (CXe P w)) {f : Addr} {fd : FuncData} (D : Df K mg "_law_cell" s_law_cell ["script", "k"] f fd) : FnOk P w K mg base (CXe P w) 1 f fd ["script", "k"] (sp_law_cell T) := by
  refine D.F.okC sc_law_cell (fun vs H Q E h => ?_) (fun cdv A outer s H vs Q E hr h => ?_)
  · obtain ⟨a, ns, i, rfl, _⟩ := h
    rfl
  · obtain ⟨a, ns, i, rfl, ha, h0, k⟩ := h
    refine ⟨_, (pss_cons (ps_if (pt_cmpR op_lt (pvl 1 n_law_cell__k) (pe_callB call_len_seq n_law_cell__len.g T.len pb_len (pa_cons (pvl 0 n_law_cell__script) pa_nil) (hn := n_law_cell__len.n) (hdb := n_law_cell__len.d)) (nomark _)) (pss_one (ps_ret (pe_op op_mod (pe_ix ix_list (pvl 0 n_law_cell__script) (pvl 1 n_law_cell__k) (fun _ _ => rfl)) (pe_op op_pow pe_int pe_int)))) pss_nil) (pss_one (ps_ret pe_int))), ?_⟩
    rw [show L2.start ["script", "k"] [V.ref a, V.int i] = [some (V.ref a), some (V.int i)] from rfl]
    walk_at "rd"
    refine ⟨_, .inl ha, ?_⟩
    rw [List.length_map]
    by_cases c : i < (ns.length : Int)
    · rw [if_pos c]
      have hi : i.toNat < ns.length := by omega
      refine ixS ha (atI_int h0 (v := .int ns[i.toNat]) (by rw [List.getElem?_map, List.getElem?_eq_getElem hi]; rfl)) ?_
      refine ⟨⟨by decide, by decide, by decide⟩, _, rfl, p60, ?_⟩
      exact k _ (Int.emod_nonneg _ (Int.ne_of_gt p60)) (Int.emod_lt_of_pos _ p60)
    · rw [if_neg c]
      exact k 0 (by decide) p60
/-! #### _law_cells -/
theorem flat_rep (n : Nat) (v : V) : (List.replicate n [v]).flatten = List.replicate n v := by
  induction n with
  | zero => rfl
  | succ n ih => rw [List.replicate_succ, List.flatten_cons, ih, List.replicate_succ]; rfl
def sp_law_cells (T : Txt K mg) : Sp := fun vs H Q _ => ∃ (a : Addr) (ns : List Int) (m : Int), vs = [.ref a, .int m] ∧ SqL K H a (ns.map V.int) ∧ ns.length ≤ 100 ∧ 1 ≤ m ∧ m ≤ 100 ∧
  ∀ (l : Addr) (cs : List Int) (H' : Hp), H l = none → Same H H' → H' l = some (.lst (cs.map V.int)) → (cs.length : Int) = m → Q (.ref l) H'
abbrev s_law_cells : Stmt := top 35
theorem sc_law_cells : FnScope ["script", "many", "cells", "k", "at"] ["script", "many"] (defScope s_law_cells) := FnScope.of (by kernel_rfl)
theorem n_law_cells__script : NmL (defScope s_law_cells) "script" := .of (by kernel_rfl)
theorem n_law_cells__many : NmL (defScope s_law_cells) "many" := .of (by kernel_rfl)
theorem n_law_cells__cells : NmL (defScope s_law_cells) "cells" := .of (by kernel_rfl)
theorem n_law_cells__k : NmL (defScope s_law_cells) "k" := .of (by kernel_rfl)
theorem n_law_cells__at : NmL (defScope s_law_cells) "at" := .of (by kernel_rfl)
theorem n_law_cells__range : NmG (defScope s_law_cells) "range" := .of (by kernel_rfl)
theorem n_law_cells__len : NmG (defScope s_law_cells) "len" := .of (by kernel_rfl)

theorem ok_law_cells (T : Txt K mg) (hq : Quiet (CXe P w)) {f : Addr} {fd : FuncData} (D : Df K mg "_law_cells" s_law_cells ["script", "many"] f fd) : FnOk P w K mg base (CXe P w) 1 f fd ["script", "many"] (sp_law_cells T) := by
  refine D.F.okC sc_law_cells (fun vs H Q E h => ?_) (fun cdv A outer s H vs Q E hr h => ?_)
  · obtain ⟨a, ns, m, rfl, _⟩ := h
    rfl
  · obtain ⟨a, ns, m, rfl, ha, hl, m1, m2, k⟩ := h
    refine ⟨_, (pss_cons (ps_set (i := 2) sc_law_cells.nd rfl (Or.inl n_law_cells__cells.l) (pe_op op_rep (pe_lst (pa_cons pe_int pa_nil)) (pvl 1 n_law_cells__many))) (pss_cons (ps_for PassesOwn.never rfl (pi_range1 n_law_cells__range.g T.range (pa_cons (pe_callB call_len_seq n_law_cells__len.g T.len pb_len (pa_cons (pvl 0 n_law_cells__script) pa_nil) (hn := n_law_cells__len.n) (hdb := n_law_cells__len.d)) pa_nil)) (pg_name (i := 3) sc_law_cells.nd rfl (Or.inl n_law_cells__k.l)) (pss_cons (ps_set (i := 4) sc_law_cells.nd rfl (Or.inl n_law_cells__at.l) (pe_op op_mod (pvl 3 n_law_cells__k) (pvl 1 n_law_cells__many))) (pss_one (ps_asg (pe_op op_mod (pe_op op_add (pe_op op_mul (pe_ix ix_list (pvl 2 n_law_cells__cells) (pvl 4 n_law_cells__at) (fun _ _ => rfl)) pe_int) (pe_ix ix_list (pvl 0 n_law_cells__script) (pvl 3 n_law_cells__k) (fun _ _ => rfl))) (pe_op op_pow pe_int pe_int)) (pg_sub (pvl 2 n_law_cells__cells) (pvl 4 n_law_cells__at) set_list))))) (pss_one (ps_ret (pvl 2 n_law_cells__cells))))), ?_⟩
    rw [show L2.start ["script", "many", "cells", "k", "at"] [V.ref a, V.int m] = [some (V.ref a), some (V.int m), none, none, none] from rfl]
    walk_at "rd"
    refine ⟨by decide, fun q hn => ⟨q, m, [.int 0], rfl, rfl, upd_same, by omega, by omega, smallE (by simp; omega), fun l hl0 => ?_⟩⟩
    rw [flat_rep]
    have s1 : Same H (upd H q (.lst [.int 0])) := Same.new _ hn
    have nlq : l ≠ q := fun z => by rw [z, upd_same] at hl0; cases hl0
    have hln : H l = none := by rw [upd_ne nlq] at hl0; exact hl0
    have sa : ∀ o, SqL K (upd (upd H q (.lst [.int 0])) l o) a (ns.map V.int) := fun o => Same.seq (s1.trans (Same.new _ hl0)) ha
    refine ⟨_, .inl (sa _), by rw [List.length_map]; omega, by rw [List.length_map]; omega, ?_⟩
    rw [List.length_map, Int.toNat_natCast]
    refine for_rangeN (fun i σ H2 => ∃ (cs : List Int) (v3 v4 : Option V), H2 = upd (upd H q (.lst [.int 0])) l (.lst (cs.map V.int)) ∧ (cs.length : Int) = m ∧ σ = [some (.ref a), some (.int m), some (.ref l), v3, v4]) ⟨List.replicate m.toNat 0, none, none, by rw [List.map_replicate], by rw [List.length_replicate]; omega, rfl⟩ ?_ ?_
    · rintro i σ H2 N hN hi ⟨cs, v3, v4, rfl, hcs, rfl⟩
      walk_at "rd"
      rw [Int.zero_add]
      have h1 := Int.emod_nonneg (i : Int) (show m ≠ 0 by omega)
      have h2 := Int.emod_lt_of_pos (i : Int) (show 0 < m by omega)
      have hc : ((i : Int) % m).toNat < cs.length := by omega
      refine ⟨by omega, ?_⟩
      refine ixL upd_same (atI_int h1 (v := .int cs[((i : Int) % m).toNat]) (by rw [List.getElem?_map, List.getElem?_eq_getElem hc]; rfl)) ?_
      refine ⟨_, rfl, .inr ⟨by decide, by decide⟩, ?_⟩
      refine ixS (sa _) (atI_nat (v := .int ns[i]) (by rw [List.getElem?_map, List.getElem?_eq_getElem hi]; rfl)) ?_
      refine ⟨_, rfl, ⟨by decide, by decide, by decide⟩, p60, ?_⟩
      refine ⟨l, _, _, ((i : Int) % m).toNat, rfl, rfl, upd_same, ?_, ?_⟩
      · unfold ixN
        rw [if_pos h1, if_pos (by rw [List.length_map]; omega)]
      · refine hN _ _ ⟨cs.set ((i : Int) % m).toNat ((cs[((i : Int) % m).toNat] * 1000003 + ns[i]) % 10 ^ Int.toNat 60), _, _, ?_, by rw [List.length_set]; exact hcs, rfl⟩
        rw [upd_upd, List.map_set]
    · rintro σ H2 ⟨cs, v3, v4, rfl, hcs, rfl⟩
      refine ⟨_, rfl, k l cs _ hln (s1.trans (Same.new _ hl0)) upd_same hcs⟩
/-! #### _law_stir -/
def sp_law_stir (T : Txt K mg) : Sp := fun vs H Q _ => ∃ c i : Int, vs = [.int c, .int i] ∧ 0 ≤ i ∧ i ≤ 1000000 ∧ ∀ v, 0 ≤ v → Q (.int v) H
abbrev s_law_stir : Stmt := top 34
theorem sc_law_stir : FnScope ["cell", "k", "big"] ["cell", "k"] (defScope s_law_stir) := FnScope.of (by kernel_rfl)
theorem n_law_stir__cell : NmL (defScope s_law_stir) "cell" := .of (by kernel_rfl)
theorem n_law_stir__k : NmL (defScope s_law_stir) "k" := .of (by kernel_rfl)
theorem n_law_stir__big : NmL (defScope s_law_stir) "big" := .of (by kernel_rfl)

theorem ok_law_stir (T : Txt K mg) (hq : Quiet (CXe P w)) {f : Addr} {fd : FuncData} (D : Df K mg "_law_stir" s_law_stir ["cell", "k"] f fd) : FnOk P w K mg base (CXe P w) 1 f fd ["cell", "k"] (sp_law_stir T) := by
  refine D.F.okC sc_law_stir (fun vs H Q E h => ?_) (fun cdv A outer s H vs Q E hr h => ?_)
  · obtain ⟨c, i, rfl, _⟩ := h
    rfl
  · obtain ⟨c, i, rfl, h0, h1, k⟩ := h
    refine ⟨_, (pss_cons (ps_set (i := 2) sc_law_stir.nd rfl (Or.inl n_law_stir__big.l) (pe_op op_mulB (pe_op op_add (pe_op op_mod (pvl 0 n_law_stir__cell) (pe_op op_pow pe_int pe_int)) pe_int) (pe_op op_add pe_int (pe_op op_mul (pe_op op_mul pe_int (pvl 1 n_law_stir__k)) (pvl 1 n_law_stir__k))))) (pss_cons (ps_set (i := 2) sc_law_stir.nd rfl (Or.inl n_law_stir__big.l) (pe_op op_add (pvl 2 n_law_stir__big) (pe_op op_mul pe_int (pvl 1 n_law_stir__k)))) (pss_one (ps_ret (pe_op op_mod (pe_op op_mulB (pvl 2 n_law_stir__big) (pvl 2 n_law_stir__big)) (pe_op op_add (pe_op op_pow pe_int pe_int) pe_int)))))), ?_⟩
    rw [show L2.start ["cell", "k", "big"] [V.int c, V.int i] = [some (V.int c), some (V.int i), none] from rfl]
    walk_at "rd"
    obtain ⟨e1, e2, e3⟩ := stir_bits c i h0 h1
    have pw : CPow 10 60 := ⟨by decide, by decide, by decide⟩
    have p33 : (0 : Int) < 10 ^ (60 : Int).toNat + 33 := Int.add_pos p60 (by decide)
    refine ⟨pw, p60, .inl ⟨by decide, by decide⟩, .inr ⟨by omega, by omega⟩, mul_ok (up_bits e1 (by decide)) (up_bits e2 (by decide)), .inl ⟨by decide, by decide⟩, mul_ok e3 e3, pw, p33, ?_⟩
    exact k _ (Int.emod_nonneg _ (Int.ne_of_gt p33))
/-! #### _law_take -/
def sp_law_take (T : Txt K mg) : Sp := fun vs H Q _ => ∃ (p : Addr) (m n : Int), vs = [.ref p, .int n] ∧ H p = some (.lst [.int m]) ∧ 0 < n ∧ n < 1073741824 ∧ Q (.int (m % n)) (upd H p (.lst [.int (m / n)]))
abbrev s_law_take : Stmt := top 36
theorem sc_law_take : FnScope ["pot", "n", "found"] ["pot", "n"] (defScope s_law_take) := FnScope.of (by kernel_rfl)
theorem n_law_take__pot : NmL (defScope s_law_take) "pot" := .of (by kernel_rfl)
theorem n_law_take__n : NmL (defScope s_law_take) "n" := .of (by kernel_rfl)
theorem n_law_take__found : NmL (defScope s_law_take) "found" := .of (by kernel_rfl)

theorem ok_law_take (T : Txt K mg) (hq : Quiet (CXe P w)) {f : Addr} {fd : FuncData} (D : Df K mg "_law_take" s_law_take ["pot", "n"] f fd) : FnOk P w K mg base (CXe P w) 1 f fd ["pot", "n"] (sp_law_take T) := by
  refine D.F.okC sc_law_take (fun vs H Q E h => ?_) (fun cdv A outer s H vs Q E hr h => ?_)
  · obtain ⟨p, m, n, rfl, _⟩ := h
    rfl
  · obtain ⟨p, m, n, rfl, hp, h0, h1, k⟩ := h
    refine ⟨_, (pss_cons (ps_set (i := 2) sc_law_take.nd rfl (Or.inl n_law_take__found.l) (pe_op op_mod (pe_ix ix_list (pvl 0 n_law_take__pot) pe_int (fun _ _ => rfl)) (pvl 1 n_law_take__n))) (pss_cons (ps_asg (pe_op op_fdiv (pe_ix ix_list (pvl 0 n_law_take__pot) pe_int (fun _ _ => rfl)) (pvl 1 n_law_take__n)) (pg_sub (pvl 0 n_law_take__pot) pe_int set_list)) (pss_one (ps_ret (pvl 2 n_law_take__found))))), ?_⟩
    rw [show L2.start ["pot", "n", "found"] [V.ref p, V.int n] = [some (V.ref p), some (V.int n), none] from rfl]
    walk_at "rd"
    refine ixL hp rfl ⟨m, rfl, h0, ?_⟩
    refine ixL hp rfl ⟨m, rfl, ⟨h0, h1⟩, ?_⟩
    exact ⟨p, _, 0, 0, rfl, rfl, hp, rfl, k⟩
/-! #### _law_toll -/
def sp_law_toll (T : Txt K mg) : Sp := fun vs H Q _ => ∃ (p : Addr) (m : Int) (sm : Bool), vs = [.ref p, .bl sm] ∧ H p = some (.lst [.int m]) ∧ ∀ (v m' : Int) (H' : Hp), 2 ≤ v → v ≤ 1000000 → H' p = some (.lst [.int m']) → (∀ b o, H b = some o → b ≠ p → H' b = some o) → Q (.int v) H'
abbrev s_law_toll : Stmt := top 37
theorem sc_law_toll : FnScope ["pot", "small", "kind"] ["pot", "small"] (defScope s_law_toll) := FnScope.of (by kernel_rfl)
theorem n_law_toll__pot : NmL (defScope s_law_toll) "pot" := .of (by kernel_rfl)
theorem n_law_toll__small : NmL (defScope s_law_toll) "small" := .of (by kernel_rfl)
theorem n_law_toll__kind : NmL (defScope s_law_toll) "kind" := .of (by kernel_rfl)
theorem n_law_toll__law_take : NmG (defScope s_law_toll) "_law_take" := .of (by kernel_rfl)

theorem ok_law_toll (T : Txt K mg) (hq : Quiet (CXe P w)) {f : Addr} {fd : FuncData} (D : Df K mg "_law_toll" s_law_toll ["pot", "small"] f fd) {f_law_take : Addr} {fd_law_take : FuncData} (D_law_take : Df K mg "_law_take" s_law_take ["pot", "n"] f_law_take fd_law_take) (G_law_take : FnOk P w K mg base (CXe P w) 1 f_law_take fd_law_take ["pot", "n"] (sp_law_take T)) : FnOk P w K mg base (CXe P w) 2 f fd ["pot", "small"] (sp_law_toll T) := by
  refine D.F.okC sc_law_toll (fun vs H Q E h => ?_) (fun cdv A outer s H vs Q E hr h => ?_)
  · obtain ⟨p, m, sm, rfl, _⟩ := h
    rfl
  · obtain ⟨p, m, sm, rfl, hp, k⟩ := h
    refine ⟨_, (pss_cons (ps_set (i := 2) sc_law_toll.nd rfl (Or.inl n_law_toll__kind.l) (pe_call G_law_take (hr.mono (by decide)) n_law_toll__law_take.g D_law_take.m D_law_take.F.kp D_law_take.b .nil (passQ hq) (pa_cons (pvl 0 n_law_toll__pot) (pa_cons pe_int pa_nil)) (hdb := n_law_toll__law_take.d))) (pss_cons (ps_if (PW.pt (pw_and (pt_cmpR op_eq (pvl 2 n_law_toll__kind) pe_int (nomark _)) (pw_and1 (pt_not (pt_truth (pvl 1 n_law_toll__small) (fun _ => rfl)))))) (pss_one (ps_ret (pe_op op_add pe_int (pe_call G_law_take (hr.mono (by decide)) n_law_toll__law_take.g D_law_take.m D_law_take.F.kp D_law_take.b .nil (passQ hq) (pa_cons (pvl 0 n_law_toll__pot) (pa_cons pe_int pa_nil)) (hdb := n_law_toll__law_take.d))))) pss_nil) (pss_cons (ps_if (PW.pt (pw_and (pt_cmpR op_eq (pvl 2 n_law_toll__kind) pe_int (nomark _)) (pw_and1 (pt_not (pt_truth (pvl 1 n_law_toll__small) (fun _ => rfl)))))) (pss_one (ps_ret (pe_ix ix_list (pe_lst (pa_cons pe_int (pa_cons (pe_op op_pow pe_int pe_int) pa_nil))) (pe_call G_law_take (hr.mono (by decide)) n_law_toll__law_take.g D_law_take.m D_law_take.F.kp D_law_take.b .nil (passQ hq) (pa_cons (pvl 0 n_law_toll__pot) (pa_cons pe_int pa_nil)) (hdb := n_law_toll__law_take.d)) (fun _ _ => rfl)))) pss_nil) (pss_one (ps_ret (pe_op op_add pe_int (pe_call G_law_take (hr.mono (by decide)) n_law_toll__law_take.g D_law_take.m D_law_take.F.kp D_law_take.b .nil (passQ hq) (pa_cons (pvl 0 n_law_toll__pot) (pa_cons pe_int pa_nil)) (hdb := n_law_toll__law_take.d)))))))), ?_⟩
    rw [show L2.start ["pot", "small", "kind"] [V.ref p, V.bl sm] = [some (V.ref p), some (V.bl sm), none] from rfl]
    have k1 : ∀ z b o, H b = some o → b ≠ p → upd H p z b = some o := fun z b o e nb => by rw [upd_ne nb]; exact e
    have em : ∀ (x n : Int), 0 < n → 0 ≤ x % n ∧ x % n < n := fun x n h => ⟨Int.emod_nonneg x (Int.ne_of_gt h), Int.emod_lt_of_pos x h⟩
    refine cutS fun N1 h1 => ?_
    walk_at "rd"
    refine ⟨p, m, 9, rfl, hp, by decide, by decide, h1 _ _ (cutS fun N2 h2 => ?_)⟩
    walk_at "rd"
    have one : sp_law_take T [V.ref p, V.int 999999] (upd H p (HO.lst [V.int (m / 9)])) (fun y H2 => ∃ x, y = V.int x ∧ Q (V.int (2 + x)) H2) E0 := by
      refine ⟨p, m / 9, 999999, rfl, upd_same, by decide, by decide, ?_⟩
      rw [upd_upd]
      have := em (m / 9) 999999 (by decide)
      exact ⟨_, rfl, k _ _ _ (by omega) (by omega) upd_same (k1 _)⟩
    have rest : N2 [some (V.ref p), some (V.bl sm), some (V.int (m % 9))] (upd H p (HO.lst [V.int (m / 9)])) := by
      refine h2 _ _ (cutS fun N3 h3 => ?_)
      have last : N3 [some (V.ref p), some (V.bl sm), some (V.int (m % 9))] (upd H p (HO.lst [V.int (m / 9)])) := by
        refine h3 _ _ ?_
        walk_at "rd"
        refine ⟨p, m / 9, 3, rfl, upd_same, by decide, by decide, ?_⟩
        rw [upd_upd]
        have := em (m / 9) 3 (by decide)
        exact ⟨_, rfl, k _ _ _ (by omega) (by omega) upd_same (k1 _)⟩
      walk_at "rd"
      by_cases c8 : m % 9 = 8
      · rw [if_pos c8]
        refine ⟨_, rfl, ?_⟩
        cases sm with
        | true => rw [if_neg (by decide)]; exact last
        | false =>
          rw [if_pos rfl]
          refine ⟨⟨by decide, by decide, by decide⟩, smallE (by simp), fun q hn => ?_⟩
          have nq : q ≠ p := fun z => by rw [z, upd_same] at hn; cases hn
          have hq0 : H q = none := by rw [upd_ne nq] at hn; exact hn
          have h2' := em (m / 9) 2 (by decide)
          refine ⟨p, m / 9, 2, rfl, by rw [upd_ne nq.symm, upd_same], by decide, by decide, ?_⟩
          have fin : ∀ b o, H b = some o → b ≠ p → upd (upd (upd H p (.lst [.int (m / 9)])) q (.lst [.int 2, .int (10 ^ Int.toNat 6)])) p (.lst [.int (m / 9 / 2)]) b = some o := fun b o e nb => by
            rw [upd_ne nb, upd_ne (ne_of_none e hq0), upd_ne nb]; exact e
          rcases (show m / 9 % 2 = 0 ∨ m / 9 % 2 = 1 by omega) with z | z
          · rw [z]
            refine ixL (by rw [upd_ne nq, upd_same]) rfl ?_
            exact k 2 _ _ (by decide) (by decide) upd_same fin
          · rw [z]
            refine ixL (by rw [upd_ne nq, upd_same]) rfl ?_
            exact k (10 ^ Int.toNat 6) _ _ (by decide) (by decide) upd_same fin
      · rw [if_neg c8]
        exact last
    by_cases c7 : m % 9 = 7
    · rw [if_pos c7]
      refine ⟨_, rfl, ?_⟩
      cases sm with
      | false => rw [if_pos rfl]; exact one
      | true => rw [if_neg (by decide)]; exact rest
    · rw [if_neg c7]
      exact rest
/-! #### _law_roads -/
def vRow (r : Row) : List V := [.int r.k, .int r.un, .int r.t, .int r.u, .int r.sw, .int r.sp]
abbrev RowsAt (H : Hp) : List Addr → List Row → Prop := Paired fun p r => H p = some (.tup (vRow r))
theorem RowsAt.get {H : Hp} : ∀ {ps : List Addr} {rs : List Row} {i : Nat} {x : V}, RowsAt H ps rs → (ps.map V.ref)[i]? = some x → ∃ p r, x = .ref p ∧ ps[i]? = some p ∧ rs[i]? = some r ∧ H p = some (.tup (vRow r))
  | _, _, i, x, .nil, e => by simp at e
  | _, _, 0, x, .cons (a := p) (b := r) h hs, e => ⟨p, r, by simpa using e.symm, by simp, by simp, h⟩
  | a :: l1, _, i + 1, x, .cons h hs, e => by
    have e' : (List.map V.ref l1)[i]? = some x := by simpa using e
    obtain ⟨p, r, h1, h2, h3, h4⟩ := RowsAt.get hs e'
    exact ⟨p, r, h1, by simpa using h2, by simpa using h3, h4⟩
theorem paired_snoc {α β : Type} {R : α → β → Prop} {a : α} {b : β} (h : R a b) : ∀ {l₁ : List α} {l₂ : List β}, Paired R l₁ l₂ → Paired R (l₁ ++ [a]) (l₂ ++ [b])
  | _, _, .nil => .cons h .nil
  | _, _, .cons x xs => .cons x (paired_snoc h xs)
theorem paired_take {α β : Type} {R : α → β → Prop} : ∀ (n : Nat) {l₁ : List α} {l₂ : List β}, Paired R l₁ l₂ → Paired R (l₁.take n) (l₂.take n)
  | 0, _, _, _ => by rw [List.take_zero, List.take_zero]; exact .nil
  | _ + 1, _, _, .nil => .nil
  | n + 1, _, _, .cons x xs => .cons x (paired_take n xs)
theorem paired_drop {α β : Type} {R : α → β → Prop} : ∀ (n : Nat) {l₁ : List α} {l₂ : List β}, Paired R l₁ l₂ → Paired R (l₁.drop n) (l₂.drop n)
  | 0, _, _, h => h
  | _ + 1, _, _, .nil => .nil
  | n + 1, _, _, .cons x xs => paired_drop n xs
theorem paired_app {α β : Type} {R : α → β → Prop} {k₁ : List α} {k₂ : List β} (h : Paired R k₁ k₂) : ∀ {l₁ : List α} {l₂ : List β}, Paired R l₁ l₂ → Paired R (l₁ ++ k₁) (l₂ ++ k₂)
  | _, _, .nil => h
  | _, _, .cons x xs => .cons x (paired_app h xs)
theorem RowsAt.snoc {H : Hp} {qs : List Addr} {rows : List Row} {q : Addr} {r : Row} (h : RowsAt H qs rows) (e : H q = some (.tup (vRow r))) : RowsAt H (qs ++ [q]) (rows ++ [r]) := paired_snoc (R := fun p r => H p = some (.tup (vRow r))) e h
theorem RoadsAt.ins {H : Hp} {ps : List Addr} {rs : List Road} {q : Addr} {r : Road} (n : Nat) (h : RoadsAt H ps rs) (e : H q = some (.tup (vRoad r))) : RoadsAt H (ps.take n ++ q :: ps.drop n) (rs.take n ++ r :: rs.drop n) :=
  paired_app (R := fun p r => H p = some (.tup (vRoad r))) (.cons e (paired_drop n h)) (paired_take n h)
/-- what is kept while a row is drawn -/
structure Mid (H : Hp) (la ro : Addr) (ls : List Int) (qs : List Addr) (rows : List Row) (H' : Hp) : Prop where
  s : Same H H'
  l : H' la = some (.lst (ls.map V.int))
  r : H' ro = some (.lst (qs.map V.ref))
  w : RowsAt H' qs rows
theorem Mid.same {H : Hp} {la ro : Addr} {ls : List Int} {qs : List Addr} {rows : List Row} {H' H2 : Hp} (m : Mid H la ro ls qs rows H') (e : Same H' H2) : Mid H la ro ls qs rows H2 :=
  ⟨m.s.trans e, e _ _ m.l, e _ _ m.r, Paired.imp' (fun p r q => e p _ q) m.w⟩
theorem Mid.keep {H : Hp} {la ro : Addr} {ls : List Int} {qs : List Addr} {rows : List Row} {H' H2 : Hp} {p : Addr} {xs : List V} (m : Mid H la ro ls qs rows H') (hp : H p = none) (nl : p ≠ la) (nr : p ≠ ro) (hx : H' p = some (.lst xs)) (e : ∀ b o, H' b = some o → b ≠ p → H2 b = some o) : Mid H la ro ls qs rows H2 :=
  ⟨fun b o h => e b o (m.s b o h) (ne_of_none h hp), e _ _ m.l nl.symm, e _ _ m.r nr.symm, Paired.imp' (fun q r h => e q _ h (ne_of h hx (by intro z; cases z))) m.w⟩
theorem keep_upd {H : Hp} {p : Addr} (o : HO) : ∀ b u, H b = some u → b ≠ p → upd H p o b = some u := fun b u h n => by rw [upd_ne n]; exact h
def sp_law_roads (T : Txt K mg) : Sp := fun vs H Q _ => ∃ (a : Addr) (cs : List Int) (first : Int), vs = [.ref a, .int first] ∧ H a = some (.lst (cs.map V.int)) ∧ 1 ≤ cs.length ∧ cs.length ≤ 24 ∧
  ∀ (l : Addr) (ps : List Addr) (rs : List Road) (H' : Hp), H l = none → Same H H' → H' l = some (.lst (ps.map V.ref)) → RoadsAt H' ps rs → Good (cs.length : Int) rs → Q (.ref l) H'
abbrev s_law_roads : Stmt := top 38
theorem sc_law_roads : FnScope ["cells", "first", "labels", "rows", "k", "pot", "under", "there", "back", "roads", "swap", "spot", "road"] ["cells", "first"] (defScope s_law_roads) := FnScope.of (by kernel_rfl)
theorem n_law_roads__cells : NmL (defScope s_law_roads) "cells" := .of (by kernel_rfl)
theorem n_law_roads__first : NmL (defScope s_law_roads) "first" := .of (by kernel_rfl)
theorem n_law_roads__labels : NmL (defScope s_law_roads) "labels" := .of (by kernel_rfl)
theorem n_law_roads__rows : NmL (defScope s_law_roads) "rows" := .of (by kernel_rfl)
theorem n_law_roads__k : NmL (defScope s_law_roads) "k" := .of (by kernel_rfl)
theorem n_law_roads__pot : NmL (defScope s_law_roads) "pot" := .of (by kernel_rfl)
theorem n_law_roads__under : NmL (defScope s_law_roads) "under" := .of (by kernel_rfl)
theorem n_law_roads__there : NmL (defScope s_law_roads) "there" := .of (by kernel_rfl)
theorem n_law_roads__back : NmL (defScope s_law_roads) "back" := .of (by kernel_rfl)
theorem n_law_roads__roads : NmL (defScope s_law_roads) "roads" := .of (by kernel_rfl)
theorem n_law_roads__swap : NmL (defScope s_law_roads) "swap" := .of (by kernel_rfl)
theorem n_law_roads__spot : NmL (defScope s_law_roads) "spot" := .of (by kernel_rfl)
theorem n_law_roads__road : NmL (defScope s_law_roads) "road" := .of (by kernel_rfl)
theorem n_law_roads__range : NmG (defScope s_law_roads) "range" := .of (by kernel_rfl)
theorem n_law_roads__len : NmG (defScope s_law_roads) "len" := .of (by kernel_rfl)
theorem n_law_roads__law_stir : NmG (defScope s_law_roads) "_law_stir" := .of (by kernel_rfl)
theorem n_law_roads__law_take : NmG (defScope s_law_roads) "_law_take" := .of (by kernel_rfl)
theorem n_law_roads__law_toll : NmG (defScope s_law_roads) "_law_toll" := .of (by kernel_rfl)
theorem n_law_roads__int : NmG (defScope s_law_roads) "int" := .of (by kernel_rfl)

theorem ok_law_roads (T : Txt K mg) (hq : Quiet (CXe P w)) {f : Addr} {fd : FuncData} (D : Df K mg "_law_roads" s_law_roads ["cells", "first"] f fd) {f_law_stir : Addr} {fd_law_stir : FuncData} (D_law_stir : Df K mg "_law_stir" s_law_stir ["cell", "k"] f_law_stir fd_law_stir) (G_law_stir : FnOk P w K mg base (CXe P w) 1 f_law_stir fd_law_stir ["cell", "k"] (sp_law_stir T)) {f_law_take : Addr} {fd_law_take : FuncData} (D_law_take : Df K mg "_law_take" s_law_take ["pot", "n"] f_law_take fd_law_take) (G_law_take : FnOk P w K mg base (CXe P w) 1 f_law_take fd_law_take ["pot", "n"] (sp_law_take T)) {f_law_toll : Addr} {fd_law_toll : FuncData} (D_law_toll : Df K mg "_law_toll" s_law_toll ["pot", "small"] f_law_toll fd_law_toll) (G_law_toll : FnOk P w K mg base (CXe P w) 2 f_law_toll fd_law_toll ["pot", "small"] (sp_law_toll T)) : FnOk P w K mg base (CXe P w) 3 f fd ["cells", "first"] (sp_law_roads T) := by
  refine D.F.okC sc_law_roads (fun vs H Q E h => ?_) (fun cdv A outer s H vs Q E hr h => ?_)
  · obtain ⟨a, cs, first, rfl, _⟩ := h
    rfl
  · obtain ⟨a, cs, first, rfl, ha, h1, h24, k⟩ := h
    have em : ∀ (x n : Int), 0 < n → 0 ≤ x % n ∧ x % n < n := fun x n h => ⟨Int.emod_nonneg x (Int.ne_of_gt h), Int.emod_lt_of_pos x h⟩
    refine ⟨_, (pss_cons (ps_set (i := 2) sc_law_roads.nd rfl (Or.inl n_law_roads__labels.l) (pe_lst pa_nil)) (pss_cons (ps_set (i := 3) sc_law_roads.nd rfl (Or.inl n_law_roads__rows.l) (pe_lst pa_nil)) (pss_cons (ps_for PassesOwn.never rfl (pi_range1 n_law_roads__range.g T.range (pa_cons (pe_callB call_len_seq n_law_roads__len.g T.len pb_len (pa_cons (pvl 0 n_law_roads__cells) pa_nil) (hn := n_law_roads__len.n) (hdb := n_law_roads__len.d)) pa_nil)) (pg_name (i := 4) sc_law_roads.nd rfl (Or.inl n_law_roads__k.l)) (pss_cons (ps_set (i := 5) sc_law_roads.nd rfl (Or.inl n_law_roads__pot.l) (pe_lst (pa_cons (pe_ix ix_list (pe_lst (pa_cons (pe_ix ix_list (pvl 0 n_law_roads__cells) (pvl 4 n_law_roads__k) (fun _ _ => rfl)) (pa_cons (pe_call G_law_stir (hr.mono (by decide)) n_law_roads__law_stir.g D_law_stir.m D_law_stir.F.kp D_law_stir.b .nil (passQ hq) (pa_cons (pe_ix ix_list (pvl 0 n_law_roads__cells) (pvl 4 n_law_roads__k) (fun _ _ => rfl)) (pa_cons (pvl 4 n_law_roads__k) pa_nil)) (hdb := n_law_roads__law_stir.d)) pa_nil))) (pe_op op_mod (pvl 1 n_law_roads__first) pe_int) (fun _ _ => rfl)) pa_nil))) (pss_cons (ps_expr (pe_bm PySem.F.plainAttrs_list PySem.F.slot_list_insert PySem.F.type_list_insert mt_insert (pvl 2 n_law_roads__labels) (pa_cons (pe_call G_law_take (hr.mono (by decide)) n_law_roads__law_take.g D_law_take.m D_law_take.F.kp D_law_take.b .nil (passQ hq) (pa_cons (pvl 5 n_law_roads__pot) (pa_cons (pe_op op_add (pvl 4 n_law_roads__k) pe_int) pa_nil)) (hdb := n_law_roads__law_take.d)) (pa_cons (pvl 4 n_law_roads__k) pa_nil)))) (pss_one (ps_if (pt_cmpR op_gt (pvl 4 n_law_roads__k) pe_int (nomark _)) (pss_cons (ps_set (i := 6) sc_law_roads.nd rfl (Or.inl n_law_roads__under.l) (pe_ix ix_list (pe_lst (pa_cons (pe_call G_law_take (hr.mono (by decide)) n_law_roads__law_take.g D_law_take.m D_law_take.F.kp D_law_take.b .nil (passQ hq) (pa_cons (pvl 5 n_law_roads__pot) (pa_cons (pvl 4 n_law_roads__k) pa_nil)) (hdb := n_law_roads__law_take.d)) (pa_cons (pe_op op_sub (pvl 4 n_law_roads__k) pe_int) (pa_cons pe_int (pa_cons (pe_op op_fdiv (pvl 4 n_law_roads__k) pe_int) pa_nil))))) (pe_op op_mod (pe_op op_fdiv (pvl 1 n_law_roads__first) pe_int) pe_int) (fun _ _ => rfl))) (pss_cons (ps_set (i := 7) sc_law_roads.nd rfl (Or.inl n_law_roads__there.l) (pe_call G_law_toll (hr.mono (by decide)) n_law_roads__law_toll.g D_law_toll.m D_law_toll.F.kp D_law_toll.b .nil (passQ hq) (pa_cons (pvl 5 n_law_roads__pot) (pa_cons (pe_cmpR op_gt (pe_callB call_len_seq n_law_roads__len.g T.len pb_len (pa_cons (pvl 0 n_law_roads__cells) pa_nil) (hn := n_law_roads__len.n) (hdb := n_law_roads__len.d)) pe_int (nomark _)) pa_nil)) (hdb := n_law_roads__law_toll.d))) (pss_cons (ps_set (i := 8) sc_law_roads.nd rfl (Or.inl n_law_roads__back.l) (pe_ix ix_list (pe_lst (pa_cons (pe_call G_law_toll (hr.mono (by decide)) n_law_roads__law_toll.g D_law_toll.m D_law_toll.F.kp D_law_toll.b .nil (passQ hq) (pa_cons (pvl 5 n_law_roads__pot) (pa_cons (pe_cmpR op_gt (pe_callB call_len_seq n_law_roads__len.g T.len pb_len (pa_cons (pvl 0 n_law_roads__cells) pa_nil) (hn := n_law_roads__len.n) (hdb := n_law_roads__len.d)) pe_int (nomark _)) pa_nil)) (hdb := n_law_roads__law_toll.d)) (pa_cons (pvl 7 n_law_roads__there) pa_nil))) (pe_callTy call_int1 n_law_roads__int.g T.int pb_int (pa_cons (pe_cmpR op_eq (pe_op op_mod (pe_op op_fdiv (pvl 1 n_law_roads__first) pe_int) pe_int) pe_int (nomark _)) pa_nil) (hn := n_law_roads__int.n) (hdb := n_law_roads__int.d)) (fun _ _ => rfl))) (pss_one (ps_expr (pe_bm PySem.F.plainAttrs_list PySem.F.slot_list_append PySem.F.type_list_append mt_append (pvl 3 n_law_roads__rows) (pa_cons (pe_tup (pa_cons (pvl 4 n_law_roads__k) (pa_cons (pvl 6 n_law_roads__under) (pa_cons (pvl 7 n_law_roads__there) (pa_cons (pvl 8 n_law_roads__back) (pa_cons (pe_call G_law_take (hr.mono (by decide)) n_law_roads__law_take.g D_law_take.m D_law_take.F.kp D_law_take.b .nil (passQ hq) (pa_cons (pvl 5 n_law_roads__pot) (pa_cons pe_int pa_nil)) (hdb := n_law_roads__law_take.d)) (pa_cons (pe_call G_law_take (hr.mono (by decide)) n_law_roads__law_take.g D_law_take.m D_law_take.F.kp D_law_take.b .nil (passQ hq) (pa_cons (pvl 5 n_law_roads__pot) (pa_cons (pvl 4 n_law_roads__k) pa_nil)) (hdb := n_law_roads__law_take.d)) pa_nil))))))) pa_nil))))))) pss_nil))))) (pss_cons (ps_set (i := 9) sc_law_roads.nd rfl (Or.inl n_law_roads__roads.l) (pe_lst pa_nil)) (pss_cons (ps_for PassesOwn.never rfl (pi_list (pvl 3 n_law_roads__rows)) (pg_tup (n := 6) rfl (pgs_cons (pg_name (i := 4) sc_law_roads.nd rfl (Or.inl n_law_roads__k.l)) (pgs_cons (pg_name (i := 6) sc_law_roads.nd rfl (Or.inl n_law_roads__under.l)) (pgs_cons (pg_name (i := 7) sc_law_roads.nd rfl (Or.inl n_law_roads__there.l)) (pgs_cons (pg_name (i := 8) sc_law_roads.nd rfl (Or.inl n_law_roads__back.l)) (pgs_cons (pg_name (i := 10) sc_law_roads.nd rfl (Or.inl n_law_roads__swap.l)) (pgs_cons (pg_name (i := 11) sc_law_roads.nd rfl (Or.inl n_law_roads__spot.l)) pgs_nil))))))) (pss_cons (ps_set (i := 12) sc_law_roads.nd rfl (Or.inl n_law_roads__road.l) (pe_tup (pa_cons (pe_ix ix_list (pvl 2 n_law_roads__labels) (pvl 4 n_law_roads__k) (fun _ _ => rfl)) (pa_cons (pe_ix ix_list (pvl 2 n_law_roads__labels) (pvl 6 n_law_roads__under) (fun _ _ => rfl)) (pa_cons (pvl 7 n_law_roads__there) (pa_cons (pvl 8 n_law_roads__back) pa_nil)))))) (pss_cons (ps_if (pt_cmpR op_eq (pvl 10 n_law_roads__swap) pe_int (nomark _)) (pss_one (ps_set (i := 12) sc_law_roads.nd rfl (Or.inl n_law_roads__road.l) (pe_tup (pa_cons (pe_ix ix_list (pvl 2 n_law_roads__labels) (pvl 6 n_law_roads__under) (fun _ _ => rfl)) (pa_cons (pe_ix ix_list (pvl 2 n_law_roads__labels) (pvl 4 n_law_roads__k) (fun _ _ => rfl)) (pa_cons (pvl 7 n_law_roads__there) (pa_cons (pvl 8 n_law_roads__back) pa_nil))))))) pss_nil) (pss_one (ps_expr (pe_bm PySem.F.plainAttrs_list PySem.F.slot_list_insert PySem.F.type_list_insert mt_insert (pvl 9 n_law_roads__roads) (pa_cons (pvl 11 n_law_roads__spot) (pa_cons (pvl 12 n_law_roads__road) pa_nil)))))))) (pss_one (ps_ret (pvl 9 n_law_roads__roads)))))))), ?_⟩
    rw [show L2.start ["cells", "first", "labels", "rows", "k", "pot", "under", "there", "back", "roads", "swap", "spot", "road"] [V.ref a, V.int first] = [some (V.ref a), some (V.int first), none, none, none, none, none, none, none, none, none, none, none] from rfl]
    walk_at "rd"
    refine ⟨by decide, fun la hla => ⟨by decide, fun ro hro => ?_⟩⟩
    have nlr : ro ≠ la := fun z => by rw [z, upd_same] at hro; cases hro
    have hro0 : H ro = none := by rw [upd_ne nlr] at hro; exact hro
    have s0 : Same H (upd (upd H la (.lst [])) ro (.lst [])) := (Same.new _ hla).trans (Same.new _ hro)
    refine ⟨_, .inl (SqL.of (s0 _ _ ha)), by rw [List.length_map]; omega, by rw [List.length_map]; omega, ?_⟩
    rw [List.length_map, Int.toNat_natCast]
    refine for_rangeN (fun i σ H2 => ∃ (ls : List Int) (qs : List Addr) (rows : List Row) (v4 v5 v6 v7 v8 : Option V), σ = [some (V.ref a), some (V.int first), some (.ref la), some (.ref ro), v4, v5, v6, v7, v8, none, none, none, none] ∧
      Mid H la ro ls qs rows H2 ∧ Labels i ls ∧ Rows (i - 1) rows) ⟨[], [], [], none, none, none, none, none, rfl, ⟨s0, by rw [upd_ne nlr.symm, upd_same]; rfl, upd_same, .nil⟩, Labels.nil, ⟨rfl, fun i r h => by cases h⟩⟩ ?_ ?_
    · rintro i σ H2 N hN hi ⟨ls, qs, rows, v4, v5, v6, v7, v8, rfl, M, L, R⟩
      walk_at "rd"
      rw [Int.zero_add]
      have hcs : (cs.map V.int)[i]? = some (.int cs[i]) := by rw [List.getElem?_map, List.getElem?_eq_getElem hi]; rfl
      refine ixL (M.s _ _ ha) (atI_nat hcs) (ixL (M.s _ _ ha) (atI_nat hcs) ⟨cs[i], (i : Int), rfl, by omega, by omega, fun st hst => ?_⟩)
      refine ⟨smallE (by simp), fun q1 hq1 => ?_⟩
      have M1 := M.same (Same.new (.lst [.int cs[i], .int st]) hq1)
      refine ⟨by decide, ?_⟩
      obtain ⟨c0, hc0⟩ : ∃ c0 : Int, atI [V.int cs[i], V.int st] (first % 2) = some (.int c0) := by
        rcases (show first % 2 = 0 ∨ first % 2 = 1 by omega) with z | z
        · exact ⟨cs[i], by rw [z]; rfl⟩
        · exact ⟨st, by rw [z]; rfl⟩
      refine ixL upd_same hc0 ⟨smallE (by simp), fun q2 hq2 => ?_⟩
      have M2 := M1.same (Same.new (.lst [.int c0]) hq2)
      have hq20 : H q2 = none := (M1.s).free hq2
      have nq2l : q2 ≠ la := fun z => by rw [z, M1.l] at hq2; cases hq2
      have nq2r : q2 ≠ ro := fun z => by rw [z, M1.r] at hq2; cases hq2
      generalize hH3 : upd (upd H2 q1 (.lst [.int cs[i], .int st])) q2 (.lst [.int c0]) = H3 at M2 ⊢
      have hp3 : H3 q2 = some (.lst [.int c0]) := by rw [← hH3]; exact upd_same
      clear hH3
      have pl := em c0 ((i : Int) + 1) (by omega)
      refine ⟨tyL M2.l, q2, c0, (i : Int) + 1, rfl, hp3, by omega, by omega, ?_⟩
      have M3 := M2.keep hq20 nq2l nq2r hp3 (keep_upd (.lst [.int (c0 / ((i : Int) + 1))]))
      have hp4 : upd H3 q2 (.lst [.int (c0 / ((i : Int) + 1))]) q2 = some (.lst [.int (c0 / ((i : Int) + 1))]) := upd_same
      generalize upd H3 q2 (.lst [.int (c0 / ((i : Int) + 1))]) = H4 at M3 hp4 ⊢
      generalize c0 / ((i : Int) + 1) = c1 at hp4
      have lsl := L.len
      refine insR M3.l pl.1 (by rw [List.length_map]; omega) (small (by rw [List.length_map]; omega)) ?_
      have L2' := L.put (c0 % ((i : Int) + 1)).toNat (by omega)
      have el : (ls.map V.int).take (c0 % ((i : Int) + 1)).toNat ++ V.int (i : Int) :: (ls.map V.int).drop (c0 % ((i : Int) + 1)).toNat = (ls.take (c0 % ((i : Int) + 1)).toNat ++ (i : Int) :: ls.drop (c0 % ((i : Int) + 1)).toNat).map V.int := by
        rw [List.map_append, List.map_cons, List.map_take, List.map_drop]
      rw [el]
      generalize ls.take (c0 % ((i : Int) + 1)).toNat ++ (i : Int) :: ls.drop (c0 % ((i : Int) + 1)).toNat = ls2 at L2' ⊢
      have M4 : Mid H la ro ls2 qs rows (upd H4 la (.lst (ls2.map V.int))) := ⟨fun b o h => keep_upd _ b o (M3.s b o h) (ne_of_none h hla), upd_same, keep_upd _ _ _ M3.r nlr, Paired.imp' (fun q r h => keep_upd _ _ _ h (ne_of h M3.l (by intro z; cases z))) M3.w⟩
      have hp5 : upd H4 la (.lst (ls2.map V.int)) q2 = some (.lst [.int c1]) := by rw [upd_ne nq2l]; exact hp4
      generalize upd H4 la (.lst (ls2.map V.int)) = H5 at M4 hp5 ⊢
      by_cases c : (0 : Int) < (i : Int)
      · rw [if_pos c]
        -- under: one of the places ahead
        refine ⟨q2, c1, (i : Int), rfl, hp5, c, by omega, ?_⟩
        have pu := em c1 (i : Int) c
        have M5 := M4.keep hq20 nq2l nq2r hp5 (keep_upd (.lst [.int (c1 / (i : Int))]))
        have hp6 : upd H5 q2 (.lst [.int (c1 / (i : Int))]) q2 = some (.lst [.int (c1 / (i : Int))]) := upd_same
        generalize upd H5 q2 (.lst [.int (c1 / (i : Int))]) = H6 at M5 hp6 ⊢
        generalize c1 / (i : Int) = c2 at hp6
        refine ⟨⟨by decide, by decide⟩, smallE (by simp), fun q3 hq3 => ?_⟩
        have M6 := M5.same (Same.new (.lst [.int (c1 % (i : Int)), .int ((i : Int) - 1), .int 0, .int ((i : Int) / 2)]) hq3)
        have hp7 := Same.new (.lst [.int (c1 % (i : Int)), .int ((i : Int) - 1), .int 0, .int ((i : Int) / 2)]) hq3 _ _ hp6
        refine ⟨⟨by decide, by decide⟩, by decide, ?_⟩
        obtain ⟨un, hun, u0, u1⟩ : ∃ un : Int, atI [V.int (c1 % (i : Int)), V.int ((i : Int) - 1), V.int 0, V.int ((i : Int) / 2)] (first / 2 % 4) = some (.int un) ∧ 0 ≤ un ∧ un < i := by
          rcases (show first / 2 % 4 = 0 ∨ first / 2 % 4 = 1 ∨ first / 2 % 4 = 2 ∨ first / 2 % 4 = 3 by omega) with z | z | z | z
          · exact ⟨_, by rw [z]; rfl, pu.1, pu.2⟩
          · exact ⟨_, by rw [z]; rfl, by omega, by omega⟩
          · exact ⟨_, by rw [z]; rfl, by omega, by omega⟩
          · exact ⟨_, by rw [z]; rfl, by omega, by omega⟩
        refine ixL upd_same hun ?_
        generalize upd H6 q3 (.lst [.int (c1 % (i : Int)), .int ((i : Int) - 1), .int 0, .int ((i : Int) / 2)]) = H7 at M6 hp7 ⊢
        -- there, back
        refine ⟨_, .inl (SqL.of (M6.s _ _ ha)), q2, c2, _, rfl, hp7, fun th c3 H8 t0 t1 hp8 k8 => ?_⟩
        have M7 := M6.keep hq20 nq2l nq2r hp7 k8
        refine ⟨_, .inl (SqL.of (M7.s _ _ ha)), q2, c3, _, rfl, hp8, fun bk c4 H9 b0 b1 hp9 k9 => ?_⟩
        have M8 := M7.keep hq20 nq2l nq2r hp8 k9
        refine ⟨smallE (by simp), fun q4 hq4 => ?_⟩
        have M9 := M8.same (Same.new (.lst [.int bk, .int th]) hq4)
        have hp10 := Same.new (.lst [.int bk, .int th]) hq4 _ _ hp9
        refine ⟨⟨by decide, by decide⟩, by decide, .inr ?_⟩
        obtain ⟨bk2, hbk, b02, b12⟩ : ∃ bk2 : Int, atI [V.int bk, V.int th] (if first / 8 % 3 = 1 then 1 else 0) = some (.int bk2) ∧ 2 ≤ bk2 ∧ bk2 ≤ 1000000 := by
          by_cases z : first / 8 % 3 = 1
          · exact ⟨th, by rw [if_pos z]; rfl, t0, t1⟩
          · exact ⟨bk, by rw [if_neg z]; rfl, b0, b1⟩
        refine ixL upd_same hbk ?_
        generalize upd H9 q4 (.lst [.int bk, .int th]) = H10 at M9 hp10 ⊢
        -- the row
        refine ⟨tyL M9.r, q2, c4, 2, rfl, hp10, by decide, by decide, ?_⟩
        have M10 := M9.keep hq20 nq2l nq2r hp10 (keep_upd (.lst [.int (c4 / 2)]))
        have hp11 : upd H10 q2 (.lst [.int (c4 / 2)]) q2 = some (.lst [.int (c4 / 2)]) := upd_same
        generalize upd H10 q2 (.lst [.int (c4 / 2)]) = H11 at M10 hp11 ⊢
        refine ⟨q2, c4 / 2, (i : Int), rfl, hp11, c, by omega, ?_⟩
        have ps := em (c4 / 2) (i : Int) c
        have M11 := M10.keep hq20 nq2l nq2r hp11 (keep_upd (.lst [.int (c4 / 2 / (i : Int))]))
        generalize upd H11 q2 (.lst [.int (c4 / 2 / (i : Int))]) = H12 at M11 ⊢
        refine ⟨smallE (by simp), fun q5 hq5 => ?_⟩
        have qsl : qs.length = rows.length := Paired.length M11.w
        have rl := R.len
        have M12 := M11.same (Same.new (.tup [.int (i : Int), .int un, .int th, .int bk2, .int (c4 % 2), .int (c4 / 2 % (i : Int))]) hq5)
        refine appR M12.r (small (by rw [List.length_map]; omega)) (hN _ _ ⟨ls2, qs ++ [q5], rows ++ [⟨(i : Int), un, th, bk2, c4 % 2, c4 / 2 % (i : Int)⟩], _, _, _, _, _, rfl, ?_, L2', ?_⟩)
        · refine ⟨fun b o h => keep_upd _ b o (M12.s b o h) (ne_of_none h hro0), keep_upd _ _ _ M12.l nlr.symm, by rw [upd_same, List.map_append]; rfl, ?_⟩
          refine RowsAt.snoc (Paired.imp' (fun q r h => keep_upd _ _ _ h (ne_of h M12.r (by intro z; cases z))) M12.w) (keep_upd _ _ _ upd_same fun z => ?_)
          rw [z, M11.r] at hq5; cases hq5
        · refine ⟨by rw [List.length_append, rl]; simp; omega, fun j r hj => ?_⟩
          by_cases hjl : j < rows.length
          · rw [List.getElem?_append_left hjl] at hj
            exact R.ok j r hj
          · have hj2 : j = rows.length := by
              have := (List.getElem?_eq_some_iff.mp hj).1
              rw [List.length_append] at this
              simp at this
              omega
            rw [hj2, List.getElem?_append_right (Nat.le_refl _), Nat.sub_self] at hj
            cases hj
            exact ⟨by show (i : Int) = _; omega, ⟨u0, u1, t0, t1, b02, b12, ps.1, ps.2⟩⟩
      · rw [if_neg c]
        refine hN _ _ ⟨ls2, qs, rows, _, _, v6, v7, v8, rfl, M4, L2', ?_⟩
        have z : i = 0 := by omega
        subst z
        exact R
    · rintro σ H2 ⟨ls, qs, rows, v4, v5, v6, v7, v8, rfl, M, L, R⟩
      walk_at "rd"
      refine ⟨by decide, fun lo hlo => ⟨⟨_, SqL.of (Same.new _ hlo _ _ M.r)⟩, ?_⟩⟩
      have hlo0 : H lo = none := M.s.free hlo
      have nla : lo ≠ la := fun z => by rw [z, M.l] at hlo; cases hlo
      have nlro : lo ≠ ro := fun z => by rw [z, M.r] at hlo; cases hlo
      have M0 := M.same (Same.new (.lst []) hlo)
      have qsl : qs.length = rows.length := Paired.length M.w
      have rl := R.len
      refine for_listN (K := K) (xs := qs.map V.ref) (fun i σ H3 => ∃ (ps : List Addr) (rs : List Road) (w4 w6 w7 w8 w10 w11 w12 : Option V), σ = [some (V.ref a), some (V.int first), some (.ref la), some (.ref ro), w4, v5, w6, w7, w8, some (.ref lo), w10, w11, w12] ∧
        Mid H la ro ls qs rows H3 ∧ H3 lo = some (.lst (ps.map V.ref)) ∧ RoadsAt H3 ps rs ∧ Put ls (rows.take i) rs) ⟨[], [], _, _, _, _, _, _, _, rfl, M0, upd_same, .nil, Put.nil ls⟩ (fun i σ H3 _ ⟨_, _, _, _, _, _, _, _, _, _, m, _⟩ => SqL.of m.r) ?_ ?_
      · rintro i x σ H3 N hN hi ⟨ps, rs, w4, w6, w7, w8, w10, w11, w12, rfl, M3, hl3, ro3, P⟩
        obtain ⟨q, r, rfl, e1, e2, e3⟩ := M3.w.get hi
        obtain ⟨rk, ok⟩ := R.ok i r e2
        have hil : i < rows.length := (List.getElem?_eq_some_iff.mp e2).1
        have et : rows.take (i + 1) = rows.take i ++ [r] := by rw [List.take_succ, e2]; rfl
        have u0 := ok.u0
        have u1 := ok.u1
        have sp0 := ok.s0
        have sp1 := ok.s1
        have pl := P.len
        rw [List.length_take] at pl
        have psl : ps.length = rs.length := Paired.length ro3
        walk_at "rd"
        refine ⟨vRow r, SqT.of e3, rfl, .int r.k, _, rfl, .int r.un, _, rfl, .int r.t, _, rfl, .int r.u, _, rfl, .int r.sw, _, rfl, .int r.sp, _, rfl, rfl, ?_⟩
        have gk : atI (ls.map V.int) r.k = some (.int (ls.getD r.k.toNat 0)) := atI_int (by omega) (by rw [List.getElem?_map, getD_of L (by omega)]; rfl)
        have gu : atI (ls.map V.int) r.un = some (.int (ls.getD r.un.toNat 0)) := atI_int u0 (by rw [List.getElem?_map, getD_of L (by omega)]; rfl)
        refine ixL M3.l gk (ixL M3.l gu ⟨smallE (by simp), fun q1 hq1 => ?_⟩)
        have M4 := M3.same (Same.new (.tup [.int (ls.getD r.k.toNat 0), .int (ls.getD r.un.toNat 0), .int r.t, .int r.u]) hq1)
        have hl4 := Same.new (.tup [.int (ls.getD r.k.toNat 0), .int (ls.getD r.un.toNat 0), .int r.t, .int r.u]) hq1 _ _ hl3
        have ro4 := RoadsAt.same (Same.new (.tup [.int (ls.getD r.k.toNat 0), .int (ls.getD r.un.toNat 0), .int r.t, .int r.u]) hq1) ro3
        have hq4 : upd H3 q1 (.tup [.int (ls.getD r.k.toNat 0), .int (ls.getD r.un.toNat 0), .int r.t, .int r.u]) q1 = some (.tup [.int (ls.getD r.k.toNat 0), .int (ls.getD r.un.toNat 0), .int r.t, .int r.u]) := upd_same
        generalize upd H3 q1 (.tup [.int (ls.getD r.k.toNat 0), .int (ls.getD r.un.toNat 0), .int r.t, .int r.u]) = H4 at M4 hl4 ro4 hq4 ⊢
        -- the tuple of the road, whichever way it is told, is put at its spot
        have put : ∀ (H5 : Hp) (q5 : Addr) (w4 w6 w7 w8 w10 w11 w12 : Option V), Mid H la ro ls qs rows H5 → H5 lo = some (.lst (ps.map V.ref)) → RoadsAt H5 ps rs → H5 q5 = some (.tup (vRoad (roadOf ls r))) →
            tyV K "list" (V.ref lo) H5 ∧ rInsert (V.ref lo) [V.int r.sp, V.ref q5] H5 fun _ H6 => N [some (V.ref a), some (V.int first), some (.ref la), some (.ref ro), w4, v5, w6, w7, w8, some (.ref lo), w10, w11, w12] H6 := by
          intro H5 q5 w4 w6 w7 w8 w10 w11 w12 M5 hl5 ro5 hq5
          refine ⟨tyL hl5, insR hl5 sp0 (by rw [List.length_map]; omega) (small (by rw [List.length_map]; omega)) (hN _ _ ⟨ps.take r.sp.toNat ++ q5 :: ps.drop r.sp.toNat, rs.take r.sp.toNat ++ roadOf ls r :: rs.drop r.sp.toNat, _, _, _, _, _, _, _, rfl, ?_, ?_, ?_, ?_⟩)⟩
          · exact M5.keep hlo0 nla nlro hl5 (keep_upd _)
          · rw [upd_same, List.map_append, List.map_cons, List.map_take, List.map_drop]
          · have kp : ∀ q r', H5 q = some (.tup (vRoad r')) → upd H5 lo (.lst ((ps.map V.ref).take r.sp.toNat ++ V.ref q5 :: (ps.map V.ref).drop r.sp.toNat)) q = some (.tup (vRoad r')) := fun q _ h => keep_upd _ _ _ h (ne_of h hl5 (by intro z; cases z))
            exact RoadsAt.ins _ (Paired.imp' kp ro5) (kp _ _ hq5)
          · rw [et]; exact P.step r r.sp.toNat
        walk_at "rd"
        by_cases csw : r.sw = 1
        · rw [if_pos csw]
          refine ixL M4.l gu (ixL M4.l gk ⟨smallE (by simp), fun q2 hq2 => ?_⟩)
          refine put _ q2 _ _ _ _ _ _ _ (M4.same (Same.new _ hq2)) (Same.new _ hq2 _ _ hl4) (RoadsAt.same (Same.new _ hq2) ro4) ?_
          rw [upd_same]; unfold roadOf; rw [if_pos csw]; rfl
        · rw [if_neg csw]
          refine put _ q1 _ _ _ _ _ _ _ M4 hl4 ro4 ?_
          rw [hq4]; unfold roadOf; rw [if_neg csw]; rfl
      · rintro σ H3 ⟨ps, rs, w4, w6, w7, w8, w10, w11, w12, rfl, M3, hl3, ro3, P⟩
        rw [List.length_map, qsl, List.take_length] at P
        exact ⟨_, rfl, k lo ps rs H3 hlo0 M3.s hl3 ro3 (good_of h1 h24 L R P)⟩
/-! #### _law_web -/
def sp_law_web (T : Txt K mg) : Sp := fun vs H Q _ => ∃ (a z : Addr) (ns ss : List Int), vs = [.ref a, .ref z] ∧ SqL K H a (ns.map V.int) ∧ ns.length ≤ 63 ∧ H z = some (.lst (ss.map V.int)) ∧ 1 ≤ ss.length ∧ ss.length ≤ 100 ∧ (∀ m ∈ ss, 1 ≤ m ∧ m ≤ 24) ∧
  ∀ (t l : Addr) (m : Int) (ps : List Addr) (rs : List Road) (H' : Hp), m ∈ ss → H t = none → H l = none → Same H H' → H' t = some (.tup [.int m, .ref l]) → H' l = some (.lst (ps.map V.ref)) → RoadsAt H' ps rs → Good m rs → Q (.ref t) H'
abbrev s_law_web : Stmt := top 39
theorem sc_law_web : FnScope ["script", "sizes", "first", "many"] ["script", "sizes"] (defScope s_law_web) := FnScope.of (by kernel_rfl)
theorem n_law_web__script : NmL (defScope s_law_web) "script" := .of (by kernel_rfl)
theorem n_law_web__sizes : NmL (defScope s_law_web) "sizes" := .of (by kernel_rfl)
theorem n_law_web__first : NmL (defScope s_law_web) "first" := .of (by kernel_rfl)
theorem n_law_web__many : NmL (defScope s_law_web) "many" := .of (by kernel_rfl)
theorem n_law_web__law_cell : NmG (defScope s_law_web) "_law_cell" := .of (by kernel_rfl)
theorem n_law_web__len : NmG (defScope s_law_web) "len" := .of (by kernel_rfl)
theorem n_law_web__law_roads : NmG (defScope s_law_web) "_law_roads" := .of (by kernel_rfl)
theorem n_law_web__law_cells : NmG (defScope s_law_web) "_law_cells" := .of (by kernel_rfl)

theorem ok_law_web (T : Txt K mg) (hq : Quiet (CXe P w)) {f : Addr} {fd : FuncData} (D : Df K mg "_law_web" s_law_web ["script", "sizes"] f fd) {f_law_cell : Addr} {fd_law_cell : FuncData} (D_law_cell : Df K mg "_law_cell" s_law_cell ["script", "k"] f_law_cell fd_law_cell) (G_law_cell : FnOk P w K mg base (CXe P w) 1 f_law_cell fd_law_cell ["script", "k"] (sp_law_cell T)) {f_law_cells : Addr} {fd_law_cells : FuncData} (D_law_cells : Df K mg "_law_cells" s_law_cells ["script", "many"] f_law_cells fd_law_cells) (G_law_cells : FnOk P w K mg base (CXe P w) 1 f_law_cells fd_law_cells ["script", "many"] (sp_law_cells T)) {f_law_roads : Addr} {fd_law_roads : FuncData} (D_law_roads : Df K mg "_law_roads" s_law_roads ["cells", "first"] f_law_roads fd_law_roads) (G_law_roads : FnOk P w K mg base (CXe P w) 3 f_law_roads fd_law_roads ["cells", "first"] (sp_law_roads T)) : FnOk P w K mg base (CXe P w) 4 f fd ["script", "sizes"] (sp_law_web T) := by
  refine D.F.okC sc_law_web (fun vs H Q E h => ?_) (fun cdv A outer s H vs Q E hr h => ?_)
  · obtain ⟨a, z, ns, ss, rfl, _⟩ := h
    rfl
  · obtain ⟨a, z, ns, ss, rfl, ha, hn, hz, h1, h2, hs, k⟩ := h
    refine ⟨_, (pss_cons (ps_set (i := 2) sc_law_web.nd rfl (Or.inl n_law_web__first.l) (pe_call G_law_cell (hr.mono (by decide)) n_law_web__law_cell.g D_law_cell.m D_law_cell.F.kp D_law_cell.b .nil (passQ hq) (pa_cons (pvl 0 n_law_web__script) (pa_cons pe_int pa_nil)) (hdb := n_law_web__law_cell.d))) (pss_cons (ps_set (i := 3) sc_law_web.nd rfl (Or.inl n_law_web__many.l) (pe_ix ix_list (pvl 1 n_law_web__sizes) (pe_op op_mod (pvl 2 n_law_web__first) (pe_callB call_len_seq n_law_web__len.g T.len pb_len (pa_cons (pvl 1 n_law_web__sizes) pa_nil) (hn := n_law_web__len.n) (hdb := n_law_web__len.d))) (fun _ _ => rfl))) (pss_one (ps_ret (pe_tup (pa_cons (pvl 3 n_law_web__many) (pa_cons (pe_call G_law_roads (hr.mono (by decide)) n_law_web__law_roads.g D_law_roads.m D_law_roads.F.kp D_law_roads.b .nil (passQ hq) (pa_cons (pe_call G_law_cells (hr.mono (by decide)) n_law_web__law_cells.g D_law_cells.m D_law_cells.F.kp D_law_cells.b .nil (passQ hq) (pa_cons (pvl 0 n_law_web__script) (pa_cons (pvl 3 n_law_web__many) pa_nil)) (hdb := n_law_web__law_cells.d)) (pa_cons (pe_op op_fdiv (pvl 2 n_law_web__first) (pe_callB call_len_seq n_law_web__len.g T.len pb_len (pa_cons (pvl 1 n_law_web__sizes) pa_nil) (hn := n_law_web__len.n) (hdb := n_law_web__len.d))) pa_nil)) (hdb := n_law_web__law_roads.d)) pa_nil))))))), ?_⟩
    rw [show L2.start ["script", "sizes", "first", "many"] [V.ref a, V.ref z] = [some (V.ref a), some (V.ref z), none, none] from rfl]
    walk_at "rd"
    refine ⟨a, ns, 0, rfl, ha, by decide, fun v v0 v1 => ?_⟩
    walk_at "rd"
    refine ⟨_, .inl (SqL.of hz), ?_⟩
    rw [List.length_map]
    have p0 := Int.emod_nonneg v (show (ss.length : Int) ≠ 0 by omega)
    have p1 := Int.emod_lt_of_pos v (show 0 < (ss.length : Int) by omega)
    have hlt : (v % (ss.length : Int)).toNat < ss.length := by omega
    refine ⟨by omega, ?_⟩
    refine ixL hz (atI_int p0 (v := .int ss[(v % (ss.length : Int)).toNat]) (by rw [List.getElem?_map, List.getElem?_eq_getElem hlt]; rfl)) ?_
    have hm := hs _ (List.getElem_mem hlt)
    have hmem := List.getElem_mem hlt
    generalize ss[(v % (ss.length : Int)).toNat] = m at hm hmem ⊢
    refine ⟨a, ns, m, rfl, ha, by omega, hm.1, by omega, fun c cs H1 hc s1 hc1 cl => ?_⟩
    walk_at "rd"
    refine ⟨_, .inl (SqL.of (s1 _ _ hz)), ?_⟩
    rw [List.length_map]
    refine ⟨⟨by omega, by omega⟩, ?_⟩
    refine ⟨c, cs, _, rfl, hc1, by omega, by omega, fun l ps rs H2 hl s2 hl2 ro g => ?_⟩
    rw [cl] at g
    refine ⟨smallE (by simp), fun t ht => ?_⟩
    have s3 := Same.new (.tup [.int m, .ref l]) ht
    exact k t l m ps rs _ hmem ((s1.trans s2).free ht) (s1.free hl) (s1.trans (s2.trans s3)) upd_same (s3 _ _ hl2) (RoadsAt.same s3 ro) g
/-! #### common_divisor -/
def sp_common_divisor (T : Txt K mg) : Sp := fun vs H Q _ => ∃ (i j : Int), vs = [.int i, .int j] ∧ Q (.int (i.gcd j : Int)) H
abbrev s_common_divisor : Stmt := top 2
theorem sc_common_divisor : FnScope ["one", "two", "rest"] ["one", "two"] (defScope s_common_divisor) := FnScope.of (by kernel_rfl)
theorem n_common_divisor__one : NmL (defScope s_common_divisor) "one" := .of (by kernel_rfl)
theorem n_common_divisor__two : NmL (defScope s_common_divisor) "two" := .of (by kernel_rfl)
theorem n_common_divisor__rest : NmL (defScope s_common_divisor) "rest" := .of (by kernel_rfl)
theorem n_common_divisor__abs : NmG (defScope s_common_divisor) "abs" := .of (by kernel_rfl)

theorem ok_common_divisor (T : Txt K mg) (hq : Quiet (CXe P w)) {f : Addr} {fd : FuncData} (D : Df K mg "common_divisor" s_common_divisor ["one", "two"] f fd) : FnOk P w K mg base (CXe P w) 1 f fd ["one", "two"] (sp_common_divisor T) := by
  refine D.F.okC sc_common_divisor (fun vs H Q E h => ?_) (fun cdv A outer s H vs Q E hr h => ?_)
  · obtain ⟨i, j, rfl, _⟩ := h
    rfl
  · obtain ⟨i, j, rfl, k⟩ := h
    refine ⟨_, (pss_cons (ps_while PassesOwn.never (pt_cmpR op_ne (pvl 1 n_common_divisor__two) pe_int (nomark _)) (pss_cons (ps_set (i := 2) sc_common_divisor.nd rfl (Or.inl n_common_divisor__rest.l) (pe_op op_modN (pvl 0 n_common_divisor__one) (pvl 1 n_common_divisor__two))) (pss_cons (ps_set (i := 0) sc_common_divisor.nd rfl (Or.inl n_common_divisor__one.l) (pvl 1 n_common_divisor__two)) (pss_one (ps_set (i := 1) sc_common_divisor.nd rfl (Or.inl n_common_divisor__two.l) (pvl 2 n_common_divisor__rest)))))) (pss_one (ps_ret (pe_callB call_abs n_common_divisor__abs.g T.abs pb_abs (pa_cons (pvl 0 n_common_divisor__one) pa_nil) (hn := n_common_divisor__abs.n) (hdb := n_common_divisor__abs.d))))), ?_⟩
    rw [show L2.start ["one", "two", "rest"] [V.int i, V.int j] = [some (V.int i), some (V.int j), none] from rfl]
    refine cutS fun N1 h1 => ?_
    refine while_H (fun n σ H' => H' = H ∧ ∃ (x y : Int) (v : Option V), n = y.natAbs ∧ x.gcd y = i.gcd j ∧ σ = [some (V.int x), some (V.int y), v]) j.natAbs ⟨rfl, i, j, _, rfl, rfl, rfl⟩ ?_
    rintro n σ H' N BB hBB hN hN2 ⟨rfl, x, y, v, rfl, e, rfl⟩
    refine hBB _ _ _ ?_
    walk_at "rd"
    by_cases c : y = 0
    · subst c
      rw [if_neg (fun z => z rfl)]
      refine h1 _ _ ?_
      walk_at "rd"
      rw [abs_eq, show (x.natAbs : Int) = (i.gcd j : Int) by rw [← e, Int.gcd_zero_right]]
      exact k
    · rw [if_pos c]
      refine ⟨N, fun σ' H2 w => ?_, c, hN (x.fmod y).natAbs _ _ (fmod_less c) ⟨rfl, y, x.fmod y, _, rfl, by rw [gcd_fm]; exact e, rfl⟩⟩
      obtain ⟨m', lt, e1, x', y', v', e2, e3, e4⟩ := hN2 _ _ w
      exact ⟨m', lt, e1, x', y', e2, e3, v', e4⟩
/-! #### fraction -/
def sp_fraction (T : Txt K mg) : Sp := fun vs H Q _ => ∃ (i j : Int), vs = [.int i, .int j] ∧ j ≠ 0 ∧ j.natAbs < 2 ^ 4000 ∧ ∀ (p q : Int) (r : Addr), Frc i j p q → H r = none → Q (.ref r) (upd H r (.tup [.int p, .int q]))
abbrev s_fraction : Stmt := top 1
theorem sc_fraction : FnScope ["top", "bottom", "common"] ["top", "bottom"] (defScope s_fraction) := FnScope.of (by kernel_rfl)
theorem n_fraction__top : NmL (defScope s_fraction) "top" := .of (by kernel_rfl)
theorem n_fraction__bottom : NmL (defScope s_fraction) "bottom" := .of (by kernel_rfl)
theorem n_fraction__common : NmL (defScope s_fraction) "common" := .of (by kernel_rfl)
theorem n_fraction__common_divisor : NmG (defScope s_fraction) "common_divisor" := .of (by kernel_rfl)

theorem ok_fraction (T : Txt K mg) (hq : Quiet (CXe P w)) {f : Addr} {fd : FuncData} (D : Df K mg "fraction" s_fraction ["top", "bottom"] f fd) {f_common_divisor : Addr} {fd_common_divisor : FuncData} (D_common_divisor : Df K mg "common_divisor" s_common_divisor ["one", "two"] f_common_divisor fd_common_divisor) (G_common_divisor : FnOk P w K mg base (CXe P w) 1 f_common_divisor fd_common_divisor ["one", "two"] (sp_common_divisor T)) : FnOk P w K mg base (CXe P w) 2 f fd ["top", "bottom"] (sp_fraction T) := by
  refine D.F.okC sc_fraction (fun vs H Q E h => ?_) (fun cdv A outer s H vs Q E hr h => ?_)
  · obtain ⟨i, j, rfl, _⟩ := h
    rfl
  · obtain ⟨i, j, rfl, j0, jb, k⟩ := h
    refine ⟨_, (pss_cons (ps_set (i := 2) sc_fraction.nd rfl (Or.inl n_fraction__common.l) (pe_call G_common_divisor (hr.mono (by decide)) n_fraction__common_divisor.g D_common_divisor.m D_common_divisor.F.kp D_common_divisor.b .nil (passQ hq) (pa_cons (pvl 0 n_fraction__top) (pa_cons (pvl 1 n_fraction__bottom) pa_nil)) (hdb := n_fraction__common_divisor.d))) (pss_cons (ps_if (pt_cmpR op_lt (pvl 1 n_fraction__bottom) pe_int (nomark _)) (pss_one (ps_set (i := 2) sc_fraction.nd rfl (Or.inl n_fraction__common.l) (pe_un un_neg (pvl 2 n_fraction__common)))) pss_nil) (pss_one (ps_ret (pe_tup (pa_cons (pe_op op_fdivLN (pvl 0 n_fraction__top) (pvl 2 n_fraction__common)) (pa_cons (pe_op op_fdivLN (pvl 1 n_fraction__bottom) (pvl 2 n_fraction__common)) pa_nil))))))), ?_⟩
    rw [show L2.start ["top", "bottom", "common"] [V.int i, V.int j] = [some (V.int i), some (V.int j), none] from rfl]
    have gp := Int.gcd_pos_of_ne_zero_right i j0
    have gl := Int.gcd_le_natAbs_right i j0
    refine cutS fun N1 h1 => ?_
    walk_at "rd"
    refine ⟨i, j, rfl, h1 _ _ ?_⟩
    have go : ∀ c : Int, c.natAbs = i.gcd j → (0 < c ↔ 0 < j) → CDivLN i c ∧ CDivLN j c ∧ Frc i j (i.fdiv c) (j.fdiv c) := fun c h1 h2 => by
      have c0 : c ≠ 0 := by omega
      have lb : c.natAbs.log2 < 9000 := log_bits c0 (n := 4000) (by omega) (by decide)
      exact ⟨⟨c0, lb⟩, ⟨c0, lb⟩, frc_of j0 h1 h2⟩
    walk_at "rd"
    by_cases c : j < 0
    · rw [if_pos c]
      obtain ⟨h1, h2, h3⟩ := go (-(i.gcd j : Int)) (by omega) (by omega)
      exact ⟨h1, h2, smallE (by simp), fun p np => k _ _ p h3 np⟩
    · rw [if_neg c]
      obtain ⟨h1, h2, h3⟩ := go (i.gcd j : Int) (by omega) (by omega)
      exact ⟨h1, h2, smallE (by simp), fun p np => k _ _ p h3 np⟩
/-! #### sum_up -/
def sp_sum_up (T : Txt K mg) : Sp := fun vs H Q _ => ∃ (a : Addr) (c : Bool) (qs : List Addr) (fs : List (Int × Int)) (n : Nat), vs = [.ref a] ∧ AtX c H a (qs.map V.ref) ∧ FrsK K H qs fs ∧ (∀ f ∈ fs, FrB n f) ∧ fs.length * n ≤ 3000 ∧ n ≤ 1000 ∧ fs.length ≤ 1000 ∧
  ∀ (p q : Int) (r : Addr) (H' : Hp), Frc (mulL fs (0, 1)).1 (mulL fs (0, 1)).2 p q → H r = none → Same H H' → H' r = some (.tup [.int p, .int q]) → Q (.ref r) H'
abbrev s_sum_up : Stmt := top 5
theorem sc_sum_up : FnScope ["some", "bottom", "part"] ["some"] (defScope s_sum_up) := FnScope.of (by kernel_rfl)
theorem n_sum_up__some : NmL (defScope s_sum_up) "some" := .of (by kernel_rfl)
theorem n_sum_up__bottom : NmC (defScope s_sum_up) "bottom" := .of (by kernel_rfl)
theorem n_sum_up__part : NmL (defScope s_sum_up) "part" := .of (by kernel_rfl)
theorem n_sum_up__common_divisor : NmG (defScope s_sum_up) "common_divisor" := .of (by kernel_rfl)
theorem n_sum_up__fraction : NmG (defScope s_sum_up) "fraction" := .of (by kernel_rfl)
theorem n_sum_up__sum : NmG (defScope s_sum_up) "sum" := .of (by kernel_rfl)

theorem ok_sum_up (T : Txt K mg) (hq : Quiet (CXe P w)) {f : Addr} {fd : FuncData} (D : Df K mg "sum_up" s_sum_up ["some"] f fd) {f_common_divisor : Addr} {fd_common_divisor : FuncData} (D_common_divisor : Df K mg "common_divisor" s_common_divisor ["one", "two"] f_common_divisor fd_common_divisor) (G_common_divisor : FnOk P w K mg base (CXe P w) 1 f_common_divisor fd_common_divisor ["one", "two"] (sp_common_divisor T)) {f_fraction : Addr} {fd_fraction : FuncData} (D_fraction : Df K mg "fraction" s_fraction ["top", "bottom"] f_fraction fd_fraction) (G_fraction : FnOk P w K mg base (CXe P w) 2 f_fraction fd_fraction ["top", "bottom"] (sp_fraction T)) : FnOk P w K mg base (CXe P w) 3 f fd ["some"] (sp_sum_up T) := by
  refine D.F.okC sc_sum_up (fun vs H Q E h => ?_) (fun cdv A outer s H vs Q E hr h => ?_)
  · obtain ⟨a, c, qs, fs, n, rfl, _⟩ := h
    rfl
  · obtain ⟨a, c, qs, fs, n, rfl, ha, hf, fb, fl, n1, f1, k⟩ := h
    refine ⟨_, (pss_cons (ps_set (i := 1) sc_sum_up.nd rfl (Or.inr n_sum_up__bottom.l) pe_int) (pss_cons (ps_for PassesOwn.never rfl (pi_any c (pvl 0 n_sum_up__some)) (pg_name (i := 2) sc_sum_up.nd rfl (Or.inl n_sum_up__part.l)) (pss_one (ps_set (i := 1) sc_sum_up.nd rfl (Or.inr n_sum_up__bottom.l) (pe_op op_mulB (pvc 1 n_sum_up__bottom) (pe_op op_fdivL (pe_ix ix_tup (pvl 2 n_sum_up__part) pe_int (fun _ _ => rfl)) (pe_call G_common_divisor (hr.mono (by decide)) n_sum_up__common_divisor.g D_common_divisor.m D_common_divisor.F.kp D_common_divisor.b .nil (passQ hq) (pa_cons (pvc 1 n_sum_up__bottom) (pa_cons (pe_ix ix_tup (pvl 2 n_sum_up__part) pe_int (fun _ _ => rfl)) pa_nil)) (hdb := n_sum_up__common_divisor.d))))))) (pss_one (ps_ret (pe_call G_fraction (hr.mono (by decide)) n_sum_up__fraction.g D_fraction.m D_fraction.F.kp D_fraction.b .nil (passQ hq) (pa_cons (pe_callB (call_sum rfl) n_sum_up__sum.g T.sum pb_sum (pa_cons (pe_comp rfl (ct_clos (Nc := ["part", "bottom"]) 1 [1] (by decide +kernel) rfl (by decide +kernel) rfl (by show ∀ (y : Str × NameKind), y ∈ _ → y.2 = NameKind.free → (defScope s_sum_up).names.lookup y.1 = some NameKind.cell; decide +kernel) rfl (fun _ h => cell_has h) (fun i hi => match i, hi with | 0, _ => ⟨"bottom", 1, rfl, rfl, rfl, by decide +kernel⟩ | i + 1, hi => absurd hi (by show ¬ i + 1 < 1; omega))) (pi_any c (pvl 0 n_sum_up__some)) (fun _ _ _ _ => (pg_name (i := 0) (show (["part", "bottom"] : List Str).Nodup from by decide +kernel) rfl (Or.inl rfl))) (fun _ _ _ _ => pts_nil) (fun _ _ _ _ => (pe_op op_mulB (pe_ix (ix_tupK K rfl) (pv 0) pe_int (fun _ _ => rfl)) (pe_op op_fdivL (pv 1) (pe_ix (ix_tupK K rfl) (pv 0) pe_int (fun _ _ => rfl)))))) pa_nil) (hn := n_sum_up__sum.n) (hdb := n_sum_up__sum.d)) (pa_cons (pvc 1 n_sum_up__bottom) pa_nil)) (hdb := n_sum_up__fraction.d)))))), ?_⟩
    rw [show L2.start ["some", "bottom", "part"] [V.ref a] = [some (V.ref a), none, none] from rfl]
    have sq : ∀ {H2 : Hp}, Same H H2 → SqX K c H2 a (qs.map V.ref) := fun {H2} s2 => AtX.sq (K := K) (show AtX c H2 a (qs.map V.ref) from s2 _ _ ha)
    have ql : qs.length = fs.length := Paired.length hf
    refine cutS fun N1 h1 => ?_
    walk_at "rd"
    refine h1 _ _ (cutS fun N2 h2 => ?_)
    walk_at "rd"
    refine ⟨⟨_, sq (Same.refl _)⟩, ?_⟩
    refine for_anyN (K := K) (c := c) (xs := qs.map V.ref) (fun i σ H2 => H2 = H ∧ ∃ (B : Int) (v : Option V), 0 < B ∧ B.natAbs ≤ 2 ^ (i * n) ∧ (∀ f ∈ fs.take i, f.2 ∣ B) ∧ σ = [some (V.ref a), some (V.int B), v]) ⟨rfl, 1, _, by decide, by simp, fun f hf => by simp at hf, rfl⟩ (fun i σ H2 _ z => by rw [z.1]; exact sq (Same.refl _)) ?_ ?_
    · rintro i x σ H2 N hN hx ⟨rfl, B, v, B0, Bb, Bd, rfl⟩
      rw [List.getElem?_map] at hx
      obtain ⟨q, gq, rfl⟩ := Option.map_eq_some_iff.mp hx
      obtain ⟨f, gf, eq⟩ := pr_get hf gq
      have fm := List.mem_of_getElem? gf
      obtain ⟨f0, fb1, fb2⟩ := fb f fm
      have il := (List.getElem?_eq_some_iff.mp gf).1
      have gp := Int.gcd_pos_of_ne_zero_right B (show f.2 ≠ 0 by omega)
      have gl := Int.gcd_le_natAbs_right B (show f.2 ≠ 0 by omega)
      obtain ⟨l0, l1⟩ := lcm_step B0 f0
      have gd : (0 : Int) ≤ f.2 / (B.gcd f.2 : Int) := Int.ediv_nonneg (by omega) (by omega)
      have qle : f.2 / (B.gcd f.2 : Int) ≤ f.2 := Int.ediv_le_self _ (by omega)
      have qb : (f.2 / (B.gcd f.2 : Int)).natAbs ≤ 2 ^ n := by omega
      have ile : i * n ≤ fs.length * n := Nat.mul_le_mul_right _ (by omega)
      have Bb' : B.natAbs < 2 ^ 4000 := Nat.lt_of_le_of_lt Bb (Nat.pow_lt_pow_right (by decide) (by omega))
      walk_at "rd"
      refine ixTS eq rfl (ixTS eq rfl ⟨_, _, rfl, _, rfl, _, rfl, ⟨by omega, log_bits (n := n) (by omega) (by omega) (by omega)⟩, mul_ok Bb' (Nat.lt_of_le_of_lt qb (Nat.pow_lt_pow_right (by decide) (by omega))), hN _ _ ⟨rfl, _, _, l0, ?_, ?_, rfl⟩⟩)
      · rw [Int.natAbs_mul, Nat.succ_mul, Nat.pow_add]
        exact Nat.mul_le_mul Bb qb
      · intro g hg
        rw [List.take_succ, gf] at hg
        rcases List.mem_append.mp hg with hg | hg
        · exact Int.dvd_mul_of_dvd_left (Bd g hg)
        · rw [show g = f by simpa using hg]
          exact l1
    · rintro σ H2 ⟨rfl, B, v, B0, Bb, Bd, rfl⟩
      refine h2 _ _ ?_
      rw [List.length_map, ql] at Bb Bd
      rw [List.take_length] at Bd
      have Bb' : B.natAbs < 2 ^ 4000 := Nat.lt_of_le_of_lt Bb (Nat.pow_lt_pow_right (by decide) (by omega))
      walk_at "rd"
      refine ⟨⟨_, sq (Same.refl _)⟩, fun p np => ?_⟩
      refine comp_any (K := K) (c := c) (xs := qs.map V.ref) (fun i ys σ H3 => Same H2 H3 ∧ H3 p = some (.lst ys) ∧ ys = ((fs.take i).map fun f => f.1 * (B / f.2)).map V.int ∧ ∃ v, σ = [v, some (V.int B)]) ⟨Same.new _ np, upd_same, rfl, _, rfl⟩ (fun i ys σ H3 _ z => sq z.1) ?_ ?_
      · rintro i x ys σ H3 N hN hx ⟨s3, e3, rfl, v, rfl⟩
        rw [List.getElem?_map] at hx
        obtain ⟨q, gq, rfl⟩ := Option.map_eq_some_iff.mp hx
        obtain ⟨f, gf, eq⟩ := pr_get hf gq
        have fm := List.mem_of_getElem? gf
        obtain ⟨f0, fb1, fb2⟩ := fb f fm
        have il := (List.getElem?_eq_some_iff.mp gf).1
        have qle : B / f.2 ≤ B := Int.ediv_le_self _ (by omega)
        have qnn : 0 ≤ B / f.2 := Int.ediv_nonneg (by omega) (by omega)
        have eq3 := Same.tup s3 eq
        have Bq : (B / f.2).natAbs < 2 ^ 4000 := Nat.lt_of_le_of_lt (show (B / f.2).natAbs ≤ B.natAbs by omega) Bb'
        walk_at "rd"
        refine ixTS eq3 rfl (ixTS eq3 rfl ⟨_, rfl, ⟨f0, log_bits (n := n) (by omega) fb2 (by omega)⟩, _, rfl, mul_ok (up_bits fb1 (by omega)) Bq, e3, small (by rw [List.length_map, List.length_map, List.length_take]; omega), hN _ _ _ ⟨s3.put np _, upd_same, ?_, _, rfl⟩⟩)
        rw [List.take_succ, gf, List.map_append, List.map_append]
        rfl
      · rintro ys σ H3 ⟨s3, e3, rfl, v, rfl⟩
        rw [List.length_map, ql, List.take_length] at e3
        refine ⟨p, rfl, _, .inl (SqL.of e3), _, _, rfl, by omega, Bb', fun x y r fr nr => k x y r _ ?_ (s3.free nr) (s3.trans (Same.new _ nr)) upd_same⟩
        have ms := mulL_sum (B := B) (fs := fs) (S := 0) (tb := (0, 1)) Bd (by rw [Int.zero_mul, Int.zero_mul])
        rw [Int.zero_add] at ms
        exact frc_tr fr ms (by omega)
/-! #### plus -/
def sp_plus (T : Txt K mg) : Sp := fun vs H Q _ => ∃ (a b : Addr) (f g : Int × Int) (n : Nat), vs = [.ref a, .ref b] ∧ SqT K H a [.int f.1, .int f.2] ∧ SqT K H b [.int g.1, .int g.2] ∧ FrB n f ∧ FrB n g ∧ n ≤ 1000 ∧
  ∀ (p q : Int) (r : Addr) (H' : Hp), Frc (f.1 * g.2 + g.1 * f.2) (f.2 * g.2) p q → H r = none → Same H H' → H' r = some (.tup [.int p, .int q]) → Q (.ref r) H'
abbrev s_plus : Stmt := top 3
theorem sc_plus : FnScope ["one", "two"] ["one", "two"] (defScope s_plus) := FnScope.of (by kernel_rfl)
theorem n_plus__one : NmL (defScope s_plus) "one" := .of (by kernel_rfl)
theorem n_plus__two : NmL (defScope s_plus) "two" := .of (by kernel_rfl)
theorem n_plus__sum_up : NmG (defScope s_plus) "sum_up" := .of (by kernel_rfl)

theorem ok_plus (T : Txt K mg) (hq : Quiet (CXe P w)) {f : Addr} {fd : FuncData} (D : Df K mg "plus" s_plus ["one", "two"] f fd) {f_sum_up : Addr} {fd_sum_up : FuncData} (D_sum_up : Df K mg "sum_up" s_sum_up ["some"] f_sum_up fd_sum_up) (G_sum_up : FnOk P w K mg base (CXe P w) 3 f_sum_up fd_sum_up ["some"] (sp_sum_up T)) : FnOk P w K mg base (CXe P w) 4 f fd ["one", "two"] (sp_plus T) := by
  refine D.F.okC sc_plus (fun vs H Q E h => ?_) (fun cdv A outer s H vs Q E hr h => ?_)
  · obtain ⟨a, b, f, g, n, rfl, _⟩ := h
    rfl
  · obtain ⟨a, b, f, g, n, rfl, ha, hb, fb, gb, n1, k⟩ := h
    refine ⟨_, (pss_one (ps_ret (pe_call G_sum_up (hr.mono (by decide)) n_plus__sum_up.g D_sum_up.m D_sum_up.F.kp D_sum_up.b .nil (passQ hq) (pa_cons (pe_lst (pa_cons (pvl 0 n_plus__one) (pa_cons (pvl 1 n_plus__two) pa_nil))) pa_nil) (hdb := n_plus__sum_up.d)))), ?_⟩
    rw [show L2.start ["one", "two"] [V.ref a, V.ref b] = [some (V.ref a), some (V.ref b)] from rfl]
    walk_at "rd"
    refine ⟨smallE (by simp), fun l nl => ?_⟩
    have s1 := Same.new (.lst [V.ref a, V.ref b]) nl
    refine ⟨l, true, [a, b], [f, g], n, rfl, upd_same, .cons (Same.tup s1 ha) (.cons (Same.tup s1 hb) .nil), fun x hx => ?_, by simp; omega, n1, by simp, fun p q r H' fr nr s' e => k p q r H' ?_ (s1.free nr) (s1.trans s') e⟩
    · simp only [List.mem_cons, List.mem_nil_iff, or_false] at hx
      rcases hx with rfl | rfl
      · exact fb
      · exact gb
    · have e1 : (mulL [f, g] (0, 1)).1 = f.1 * g.2 + g.1 * f.2 := by
        show (0 * f.2 + f.1 * 1) * g.2 + g.1 * (1 * f.2) = _
        rw [Int.zero_mul, Int.zero_add, Int.mul_one, Int.one_mul]
      have e2 : (mulL [f, g] (0, 1)).2 = f.2 * g.2 := by
        show 1 * f.2 * g.2 = _
        rw [Int.one_mul]
      rw [e1, e2] at fr
      exact fr
/-! #### minus -/
def sp_minus (T : Txt K mg) : Sp := fun vs H Q _ => ∃ (a b : Addr) (f g : Int × Int) (n : Nat), vs = [.ref a, .ref b] ∧ SqT K H a [.int f.1, .int f.2] ∧ SqT K H b [.int g.1, .int g.2] ∧ FrB n f ∧ FrB n g ∧ n ≤ 1000 ∧
  ∀ (p q : Int) (r : Addr) (H' : Hp), Frc (f.1 * g.2 - g.1 * f.2) (f.2 * g.2) p q → H r = none → Same H H' → H' r = some (.tup [.int p, .int q]) → Q (.ref r) H'
abbrev s_minus : Stmt := top 4
theorem sc_minus : FnScope ["one", "two"] ["one", "two"] (defScope s_minus) := FnScope.of (by kernel_rfl)
theorem n_minus__one : NmL (defScope s_minus) "one" := .of (by kernel_rfl)
theorem n_minus__two : NmL (defScope s_minus) "two" := .of (by kernel_rfl)
theorem n_minus__plus : NmG (defScope s_minus) "plus" := .of (by kernel_rfl)

theorem ok_minus (T : Txt K mg) (hq : Quiet (CXe P w)) {f : Addr} {fd : FuncData} (D : Df K mg "minus" s_minus ["one", "two"] f fd) {f_plus : Addr} {fd_plus : FuncData} (D_plus : Df K mg "plus" s_plus ["one", "two"] f_plus fd_plus) (G_plus : FnOk P w K mg base (CXe P w) 4 f_plus fd_plus ["one", "two"] (sp_plus T)) : FnOk P w K mg base (CXe P w) 5 f fd ["one", "two"] (sp_minus T) := by
  refine D.F.okC sc_minus (fun vs H Q E h => ?_) (fun cdv A outer s H vs Q E hr h => ?_)
  · obtain ⟨a, b, f, g, n, rfl, _⟩ := h
    rfl
  · obtain ⟨a, b, f, g, n, rfl, ha, hb, fb, gb, n1, k⟩ := h
    refine ⟨_, (pss_one (ps_ret (pe_call G_plus (hr.mono (by decide)) n_minus__plus.g D_plus.m D_plus.F.kp D_plus.b .nil (passQ hq) (pa_cons (pvl 0 n_minus__one) (pa_cons (pe_tup (pa_cons (pe_un un_neg (pe_ix ix_tup (pvl 1 n_minus__two) pe_int (fun _ _ => rfl))) (pa_cons (pe_ix ix_tup (pvl 1 n_minus__two) pe_int (fun _ _ => rfl)) pa_nil))) pa_nil)) (hdb := n_minus__plus.d)))), ?_⟩
    rw [show L2.start ["one", "two"] [V.ref a, V.ref b] = [some (V.ref a), some (V.ref b)] from rfl]
    walk_at "rd"
    refine ixTS hb rfl ?_
    refine ⟨_, rfl, ixTS hb rfl ⟨smallE (by simp), fun l nl => ?_⟩⟩
    have s1 := Same.new (.tup [V.int (-g.1), V.int g.2]) nl
    refine ⟨a, l, f, (-g.1, g.2), n, rfl, Same.tup s1 ha, SqT.of upd_same, fb, ⟨gb.1, by show (-g.1).natAbs < _; rw [Int.natAbs_neg]; exact gb.2.1, gb.2.2⟩, n1, fun p q r H' fr nr s' e => k p q r H' ?_ (s1.free nr) (s1.trans s') e⟩
    rw [show f.1 * g.2 - g.1 * f.2 = f.1 * g.2 + -g.1 * f.2 by rw [Int.neg_mul]; omega]
    exact fr
/-! #### check_place -/
def sp_check_place (T : Txt K mg) : Sp := fun vs H Q E => ∃ (p t : Addr) (m : Int) (ps : List Addr) (rs : List Road) (n : Int), vs = [.ref p, .int n] ∧ WebAt T.Web H p m t ps rs ∧ (0 ≤ n → n < m → Q .non H) ∧ (¬ (0 ≤ n ∧ n < m) → E (.ref T.NoPlace) none H)
abbrev s_check_place : Stmt := top 18
theorem sc_check_place : FnScope ["web", "number"] ["web", "number"] (defScope s_check_place) := FnScope.of (by kernel_rfl)
theorem n_check_place__web : NmL (defScope s_check_place) "web" := .of (by kernel_rfl)
theorem n_check_place__number : NmL (defScope s_check_place) "number" := .of (by kernel_rfl)
theorem n_check_place__is_place : NmG (defScope s_check_place) "is_place" := .of (by kernel_rfl)
theorem n_check_place__NoPlace : NmG (defScope s_check_place) "NoPlace" := .of (by kernel_rfl)

theorem ok_check_place (T : Txt K mg) (hq : Quiet (CXe P w)) {f : Addr} {fd : FuncData} (D : Df K mg "check_place" s_check_place ["web", "number"] f fd) {f_is_place : Addr} {fd_is_place : FuncData} (D_is_place : Df K mg "is_place" s_is_place ["many", "number"] f_is_place fd_is_place) (G_is_place : FnOk P w K mg base (CXe P w) 1 f_is_place fd_is_place ["many", "number"] (sp_is_place T)) : FnOk P w K mg base (CXe P w) 2 f fd ["web", "number"] (sp_check_place T) := by
  refine D.F.okX sc_check_place (fun vs H Q E h => ?_) (fun cdv A outer s H vs Q E hr h => ?_)
  · obtain ⟨p, t, m, ps, rs, n, rfl, _⟩ := h
    rfl
  · obtain ⟨p, t, m, ps, rs, n, rfl, W, k, e⟩ := h
    obtain ⟨dx, ob⟩ := W.ob
    refine ⟨_, (pss_one (ps_if (pt_not (pt_val (pe_call G_is_place (hr.mono (by decide)) n_check_place__is_place.g D_is_place.m D_is_place.F.kp D_is_place.b .nil passX (pa_cons (pe_fld  (pvl 0 n_check_place__web) rfl) (pa_cons (pvl 1 n_check_place__number) pa_nil)) (hdb := n_check_place__is_place.d)))) (pss_one (ps_raise T.e_NoPlace rfl raisesX n_check_place__NoPlace.g T.m_NoPlace (pa_cons pe_str pa_nil) (hdb := n_check_place__NoPlace.d))) pss_nil)), ?_⟩
    rw [show L2.start ["web", "number"] [V.ref p, V.int n] = [some (V.ref p), some (V.int n)] from rfl]
    walk_at "rd"
    refine ⟨T.Web, dx, _, ob, T.cl_Web, T.n_many, _, wflds_many m t, m, n, rfl, _, rfl, ?_⟩
    by_cases c : 0 ≤ n ∧ n < m
    · rw [if_neg (by simp [c.1, c.2])]
      exact k c.1 c.2
    · rw [if_pos (by simpa [Bool.and_eq_true] using c)]
      exact ⟨by decide, e c⟩
/-! #### neighbours -/
def sp_neighbours (T : Txt K mg) : Sp := fun vs H Q E => ∃ (p t : Addr) (m : Int) (ps : List Addr) (rs : List Road) (a : Int), vs = [.ref p, .int a] ∧ WebAt T.Web H p m t ps rs ∧
  (∀ l H', 0 ≤ a → a < m → H l = none → Same H H' → H' l = some (.lst ((nbrs m rs a).map V.int)) → Q (.ref l) H') ∧ (¬ (0 ≤ a ∧ a < m) → E (.ref T.NoPlace) none H)
abbrev s_neighbours : Stmt := top 17
theorem sc_neighbours : FnScope ["web", "a"] ["web", "a"] (defScope s_neighbours) := FnScope.of (by kernel_rfl)
theorem n_neighbours__web : NmL (defScope s_neighbours) "web" := .of (by kernel_rfl)
theorem n_neighbours__a : NmL (defScope s_neighbours) "a" := .of (by kernel_rfl)
theorem n_neighbours__check_place : NmG (defScope s_neighbours) "check_place" := .of (by kernel_rfl)
theorem n_neighbours__sorted : NmG (defScope s_neighbours) "sorted" := .of (by kernel_rfl)
theorem n_neighbours__other_ends : NmG (defScope s_neighbours) "other_ends" := .of (by kernel_rfl)

theorem ok_neighbours (T : Txt K mg) (hq : Quiet (CXe P w)) {f : Addr} {fd : FuncData} (D : Df K mg "neighbours" s_neighbours ["web", "a"] f fd) {f_check_place : Addr} {fd_check_place : FuncData} (D_check_place : Df K mg "check_place" s_check_place ["web", "number"] f_check_place fd_check_place) (G_check_place : FnOk P w K mg base (CXe P w) 2 f_check_place fd_check_place ["web", "number"] (sp_check_place T)) {f_other_ends : Addr} {fd_other_ends : FuncData} (D_other_ends : Df K mg "other_ends" s_other_ends ["roads", "place"] f_other_ends fd_other_ends) (G_other_ends : FnOk P w K mg base (CXe P w) 1 f_other_ends fd_other_ends ["roads", "place"] (sp_other_ends T)) : FnOk P w K mg base (CXe P w) 3 f fd ["web", "a"] (sp_neighbours T) := by
  refine D.F.okX sc_neighbours (fun vs H Q E h => ?_) (fun cdv A outer s H vs Q E hr h => ?_)
  · obtain ⟨p, t, m, ps, rs, a, rfl, _⟩ := h
    rfl
  · obtain ⟨p, t, m, ps, rs, a, rfl, W, k, e⟩ := h
    obtain ⟨dx, ob⟩ := W.ob
    refine ⟨_, (pss_cons (ps_expr (pe_call G_check_place (hr.mono (by decide)) n_neighbours__check_place.g D_check_place.m D_check_place.F.kp D_check_place.b .nil passX (pa_cons (pvl 0 n_neighbours__web) (pa_cons (pvl 1 n_neighbours__a) pa_nil)) (hdb := n_neighbours__check_place.d))) (pss_one (ps_ret (pe_callB call_sorted n_neighbours__sorted.g T.sorted pb_sorted (pa_cons (pe_call G_other_ends (hr.mono (by decide)) n_neighbours__other_ends.g D_other_ends.m D_other_ends.F.kp D_other_ends.b .nil passX (pa_cons (pe_fld  (pvl 0 n_neighbours__web) rfl) (pa_cons (pvl 1 n_neighbours__a) pa_nil)) (hdb := n_neighbours__other_ends.d)) pa_nil) (hn := n_neighbours__sorted.n) (hdb := n_neighbours__sorted.d))))), ?_⟩
    rw [show L2.start ["web", "a"] [V.ref p, V.int a] = [some (V.ref p), some (V.int a)] from rfl]
    walk_at "rd"
    refine ⟨p, t, m, ps, rs, a, rfl, W, fun a0 a1 => ?_, e⟩
    have hlen : (rs.length : Int) = m - 1 := W.go.len
    have m24 := W.go.m24
    refine ⟨T.Web, dx, _, ob, T.cl_Web, T.n_roads, _, wflds_roads m t, t, ps, rs, a, rfl, SqT.of W.tu, W.ro, by omega, fun l1 H1 n1 s1 e1 => ?_⟩
    refine ⟨l1, rfl, ends rs a, SqL.of e1, by have := ends_len rs a; omega, fun l2 zs n2 pz sz => ?_⟩
    rw [nbrs_eq W.go a0 a1 pz sz]
    exact k l2 _ a0 a1 (s1.free n2) (s1.trans (Same.new _ n2)) upd_same
/-! #### road_part -/
def sp_road_part (T : Txt K mg) : Sp := fun vs H Q _ => ∃ (i j : Int), vs = [.int i, .int j] ∧ (2 ≤ i ∧ i ≤ 1000000) ∧ (2 ≤ j ∧ j ≤ 1000000) ∧ ∀ (p q : Int) (r : Addr), Frc (i - 1) (i * j - 1) p q → H r = none → Q (.ref r) (upd H r (.tup [.int p, .int q]))
abbrev s_road_part : Stmt := top 31
theorem sc_road_part : FnScope ["one", "other"] ["one", "other"] (defScope s_road_part) := FnScope.of (by kernel_rfl)
theorem n_road_part__one : NmL (defScope s_road_part) "one" := .of (by kernel_rfl)
theorem n_road_part__other : NmL (defScope s_road_part) "other" := .of (by kernel_rfl)
theorem n_road_part__fraction : NmG (defScope s_road_part) "fraction" := .of (by kernel_rfl)

theorem ok_road_part (T : Txt K mg) (hq : Quiet (CXe P w)) {f : Addr} {fd : FuncData} (D : Df K mg "road_part" s_road_part ["one", "other"] f fd) {f_fraction : Addr} {fd_fraction : FuncData} (D_fraction : Df K mg "fraction" s_fraction ["top", "bottom"] f_fraction fd_fraction) (G_fraction : FnOk P w K mg base (CXe P w) 2 f_fraction fd_fraction ["top", "bottom"] (sp_fraction T)) : FnOk P w K mg base (CXe P w) 3 f fd ["one", "other"] (sp_road_part T) := by
  refine D.F.okC sc_road_part (fun vs H Q E h => ?_) (fun cdv A outer s H vs Q E hr h => ?_)
  · obtain ⟨i, j, rfl, _⟩ := h
    rfl
  · obtain ⟨i, j, rfl, hi, hj, k⟩ := h
    refine ⟨_, (pss_one (ps_ret (pe_call G_fraction (hr.mono (by decide)) n_road_part__fraction.g D_fraction.m D_fraction.F.kp D_fraction.b .nil (passQ hq) (pa_cons (pe_op op_sub (pvl 0 n_road_part__one) pe_int) (pa_cons (pe_op op_sub (pe_op op_mulB (pvl 0 n_road_part__one) (pvl 1 n_road_part__other)) pe_int) pa_nil)) (hdb := n_road_part__fraction.d)))), ?_⟩
    rw [show L2.start ["one", "other"] [V.int i, V.int j] = [some (V.int i), some (V.int j)] from rfl]
    have ib : i.natAbs < 2 ^ 20 := by omega
    have jb : j.natAbs < 2 ^ 20 := by omega
    have m4 : 4 ≤ i * j := by have := Int.mul_le_mul hi.1 hj.1 (by decide) (by omega); omega
    have mb : (i * j).natAbs < 2 ^ 40 := mul_bits (m := 20) (n := 20) ib jb
    walk_at "rd"
    exact ⟨mul_ok (up_bits ib (by decide)) (up_bits jb (by decide)), i - 1, i * j - 1, rfl, by omega, up_bits (m := 40) (by omega) (by decide), k⟩
/-! #### toll -/
def sp_toll (T : Txt K mg) : Sp := fun vs H Q E => ∃ (p t : Addr) (m : Int) (ps : List Addr) (rs : List Road) (a b : Int), vs = [.ref p, .int a, .int b] ∧ WebAt T.Web H p m t ps rs ∧
  (∀ k, 0 ≤ a → a < m → 0 ≤ b → b < m → tollOf rs a b = some k → Q (.int k) H) ∧ (¬ ((0 ≤ a ∧ a < m) ∧ (0 ≤ b ∧ b < m)) → E (.ref T.NoPlace) none H) ∧ (0 ≤ a → a < m → 0 ≤ b → b < m → tollOf rs a b = none → E (.ref T.NoRoad) none H)
abbrev s_toll : Stmt := top 16
theorem sc_toll : FnScope ["web", "a", "b", "one", "other", "there", "back"] ["web", "a", "b"] (defScope s_toll) := FnScope.of (by kernel_rfl)
theorem n_toll__web : NmL (defScope s_toll) "web" := .of (by kernel_rfl)
theorem n_toll__a : NmL (defScope s_toll) "a" := .of (by kernel_rfl)
theorem n_toll__b : NmL (defScope s_toll) "b" := .of (by kernel_rfl)
theorem n_toll__one : NmL (defScope s_toll) "one" := .of (by kernel_rfl)
theorem n_toll__other : NmL (defScope s_toll) "other" := .of (by kernel_rfl)
theorem n_toll__there : NmL (defScope s_toll) "there" := .of (by kernel_rfl)
theorem n_toll__back : NmL (defScope s_toll) "back" := .of (by kernel_rfl)
theorem n_toll__check_place : NmG (defScope s_toll) "check_place" := .of (by kernel_rfl)
theorem n_toll__NoRoad : NmG (defScope s_toll) "NoRoad" := .of (by kernel_rfl)

theorem ok_toll (T : Txt K mg) (hq : Quiet (CXe P w)) {f : Addr} {fd : FuncData} (D : Df K mg "toll" s_toll ["web", "a", "b"] f fd) {f_check_place : Addr} {fd_check_place : FuncData} (D_check_place : Df K mg "check_place" s_check_place ["web", "number"] f_check_place fd_check_place) (G_check_place : FnOk P w K mg base (CXe P w) 2 f_check_place fd_check_place ["web", "number"] (sp_check_place T)) : FnOk P w K mg base (CXe P w) 3 f fd ["web", "a", "b"] (sp_toll T) := by
  refine D.F.okX sc_toll (fun vs H Q E h => ?_) (fun cdv A outer s H vs Q E hr h => ?_)
  · obtain ⟨p, t, m, ps, rs, a, b, rfl, _⟩ := h
    rfl
  · obtain ⟨p, t, m, ps, rs, a, b, rfl, W, k, e1, e2⟩ := h
    obtain ⟨dx, ob⟩ := W.ob
    refine ⟨_, (pss_cons (ps_expr (pe_call G_check_place (hr.mono (by decide)) n_toll__check_place.g D_check_place.m D_check_place.F.kp D_check_place.b .nil passX (pa_cons (pvl 0 n_toll__web) (pa_cons (pvl 1 n_toll__a) pa_nil)) (hdb := n_toll__check_place.d))) (pss_cons (ps_expr (pe_call G_check_place (hr.mono (by decide)) n_toll__check_place.g D_check_place.m D_check_place.F.kp D_check_place.b .nil passX (pa_cons (pvl 0 n_toll__web) (pa_cons (pvl 2 n_toll__b) pa_nil)) (hdb := n_toll__check_place.d))) (pss_cons (ps_for PassesOwn.leaving rfl (pi_tup (pe_fld  (pvl 0 n_toll__web) rfl)) (pg_tup (n := 4) rfl (pgs_cons (pg_name (i := 3) sc_toll.nd rfl (Or.inl n_toll__one.l)) (pgs_cons (pg_name (i := 4) sc_toll.nd rfl (Or.inl n_toll__other.l)) (pgs_cons (pg_name (i := 5) sc_toll.nd rfl (Or.inl n_toll__there.l)) (pgs_cons (pg_name (i := 6) sc_toll.nd rfl (Or.inl n_toll__back.l)) pgs_nil))))) (pss_cons (ps_if (PW.pt (pw_and (pt_cmpR op_eq (pvl 3 n_toll__one) (pvl 1 n_toll__a) (nomark _)) (pw_and1 (pt_cmpR op_eq (pvl 4 n_toll__other) (pvl 2 n_toll__b) (nomark _))))) (pss_one (ps_ret (pvl 5 n_toll__there))) pss_nil) (pss_one (ps_if (PW.pt (pw_and (pt_cmpR op_eq (pvl 3 n_toll__one) (pvl 2 n_toll__b) (nomark _)) (pw_and1 (pt_cmpR op_eq (pvl 4 n_toll__other) (pvl 1 n_toll__a) (nomark _))))) (pss_one (ps_ret (pvl 6 n_toll__back))) pss_nil)))) (pss_one (ps_raise T.e_NoRoad rfl raisesX n_toll__NoRoad.g T.m_NoRoad (pa_cons pe_str pa_nil) (hdb := n_toll__NoRoad.d)))))), ?_⟩
    rw [show L2.start ["web", "a", "b", "one", "other", "there", "back"] [V.ref p, V.int a, V.int b] = [some (V.ref p), some (V.int a), some (V.int b), none, none, none, none] from rfl]
    walk_at "rd"
    refine ⟨p, t, m, ps, rs, a, rfl, W, fun a0 a1 => ?_, fun z => e1 fun w => z w.1⟩
    refine ⟨p, t, m, ps, rs, b, rfl, W, fun b0 b1 => ?_, fun z => e1 fun w => z w.2⟩
    refine ⟨T.Web, dx, _, ob, T.cl_Web, T.n_roads, _, wflds_roads m t, t, rfl, ⟨_, SqT.of W.tu⟩, ?_⟩
    have hlen : ps.length = rs.length := Paired.length W.ro
    refine for_tupN (K := K) (xs := ps.map V.ref) (fun i σ H2 => H2 = H ∧ tollOf (rs.take i) a b = none ∧ ∃ v1 v2 v3 v4, σ = [some (V.ref p), some (V.int a), some (V.int b), v1, v2, v3, v4]) ⟨rfl, rfl, _, _, _, _, rfl⟩ (fun i σ H2 _ z => by rw [z.1]; exact SqT.of W.tu) ?_ ?_
    · rintro i x σ H2 N hN hx ⟨rfl, hno, v1, v2, v3, v4, rfl⟩
      obtain ⟨q, r, rfl, h1, h2, h3⟩ := W.ro.get hx
      have et : rs.take (i + 1) = rs.take i ++ [r] := by rw [List.take_succ, h2]; rfl
      have split : tollOf rs a b = (tollOf (rs.take i) a b).or ((toll1 a b r).or (tollOf (rs.drop (i + 1)) a b)) := by
        have : rs = rs.take i ++ r :: rs.drop (i + 1) := by
          have hil : i < rs.length := (List.getElem?_eq_some_iff.mp h2).1
          have e : rs[i] = r := by rw [List.getElem?_eq_getElem hil] at h2; exact Option.some.inj h2
          rw [← e, List.getElem_cons_drop, List.take_append_drop]
        conv => lhs; rw [this]
        unfold tollOf
        rw [List.findSome?_append, List.findSome?_cons]
        cases toll1 a b r <;> rfl
      rw [hno, Option.none_or] at split
      walk_at "rd"
      refine ⟨_, SqT.of h3, rfl, _, _, rfl, _, _, rfl, _, _, rfl, _, _, rfl, rfl, ?_⟩
      walk_at "rd"
      have next : toll1 a b r = none → N [some (V.ref p), some (V.int a), some (V.int b), some (V.int r.a), some (V.int r.b), some (V.int r.t), some (V.int r.u)] H2 := fun z => hN _ _ ⟨rfl, by
        rw [et]
        unfold tollOf at hno ⊢
        rw [List.findSome?_append, hno, List.findSome?_cons, z]
        rfl, _, _, _, _, rfl⟩
      have got : ∀ v, toll1 a b r = some v → tollOf rs a b = some v := fun v z => by rw [split, z]; rfl
      unfold toll1 at next got
      split
      · rename_i c1
        split
        · rename_i c2
          exact k _ a0 a1 b0 b1 (got _ (by rw [if_pos ⟨c1, c2⟩]))
        · rename_i c2
          split
          · rename_i c3
            split
            · rename_i c4
              exact k _ a0 a1 b0 b1 (got _ (by rw [if_neg (fun z => c2 z.2), if_pos ⟨c3, c4⟩]))
            · rename_i c4
              exact next (by rw [if_neg (fun z => c2 z.2), if_neg (fun z => c4 z.2)])
          · rename_i c3
            exact next (by rw [if_neg (fun z => c2 z.2), if_neg (fun z => c3 z.1)])
      · rename_i c1
        split
        · rename_i c3
          split
          · rename_i c4
            exact k _ a0 a1 b0 b1 (got _ (by rw [if_neg (fun z => c1 z.1), if_pos ⟨c3, c4⟩]))
          · rename_i c4
            exact next (by rw [if_neg (fun z => c1 z.1), if_neg (fun z => c4 z.2)])
        · rename_i c3
          exact next (by rw [if_neg (fun z => c1 z.1), if_neg (fun z => c3 z.1)])
    · rintro σ H2 ⟨rfl, hno, v1, v2, v3, v4, rfl⟩
      rw [List.length_map, hlen, List.take_length] at hno
      walk_at "rd"
      exact ⟨by decide, e2 a0 a1 b0 b1 hno⟩
/-! #### even_share -/
def sp_even_share (T : Txt K mg) : Sp := fun vs H Q _ => ∃ (p t : Addr) (m : Int) (ps : List Addr) (rs : List Road) (u : Int), vs = [.ref p, .int u] ∧ WebAt T.Web H p m t ps rs ∧ 0 ≤ u ∧ u < m ∧
  ∀ (f : Int × Int) (r : Addr) (H' : Hp), FrB 990 f → f.1.gcd f.2 = 1 → (f.1 : Rat) / f.2 = shr m rs (evp rs) u → H r = none → Same H H' → H' r = some (.tup [.int f.1, .int f.2]) → Q (.ref r) H'
abbrev s_even_share : Stmt := top 28
theorem sc_even_share : FnScope ["web", "place", "near"] ["web", "place"] (defScope s_even_share) := FnScope.of (by kernel_rfl)
theorem n_even_share__web : NmC (defScope s_even_share) "web" := .of (by kernel_rfl)
theorem n_even_share__place : NmC (defScope s_even_share) "place" := .of (by kernel_rfl)
theorem n_even_share__near : NmL (defScope s_even_share) "near" := .of (by kernel_rfl)
theorem n_even_share__neighbours : NmG (defScope s_even_share) "neighbours" := .of (by kernel_rfl)
theorem n_even_share__minus : NmG (defScope s_even_share) "minus" := .of (by kernel_rfl)
theorem n_even_share__ONE : NmG (defScope s_even_share) "ONE" := .of (by kernel_rfl)
theorem n_even_share__sum_up : NmG (defScope s_even_share) "sum_up" := .of (by kernel_rfl)

theorem ok_even_share (T : Txt K mg) (hq : Quiet (CXe P w)) {f : Addr} {fd : FuncData} (D : Df K mg "even_share" s_even_share ["web", "place"] f fd) {f_minus : Addr} {fd_minus : FuncData} (D_minus : Df K mg "minus" s_minus ["one", "two"] f_minus fd_minus) (G_minus : FnOk P w K mg base (CXe P w) 5 f_minus fd_minus ["one", "two"] (sp_minus T)) {f_neighbours : Addr} {fd_neighbours : FuncData} (D_neighbours : Df K mg "neighbours" s_neighbours ["web", "a"] f_neighbours fd_neighbours) (G_neighbours : FnOk P w K mg base (CXe P w) 3 f_neighbours fd_neighbours ["web", "a"] (sp_neighbours T)) {f_road_part : Addr} {fd_road_part : FuncData} (D_road_part : Df K mg "road_part" s_road_part ["one", "other"] f_road_part fd_road_part) (G_road_part : FnOk P w K mg base (CXe P w) 3 f_road_part fd_road_part ["one", "other"] (sp_road_part T)) {f_sum_up : Addr} {fd_sum_up : FuncData} (D_sum_up : Df K mg "sum_up" s_sum_up ["some"] f_sum_up fd_sum_up) (G_sum_up : FnOk P w K mg base (CXe P w) 3 f_sum_up fd_sum_up ["some"] (sp_sum_up T)) {f_toll : Addr} {fd_toll : FuncData} (D_toll : Df K mg "toll" s_toll ["web", "a", "b"] f_toll fd_toll) (G_toll : FnOk P w K mg base (CXe P w) 3 f_toll fd_toll ["web", "a", "b"] (sp_toll T)) : FnOk P w K mg base (CXe P w) 6 f fd ["web", "place"] (sp_even_share T) := by
  refine D.F.okC sc_even_share (fun vs H Q E h => ?_) (fun cdv A outer s H vs Q E hr h => ?_)
  · obtain ⟨p, t, m, ps, rs, u, rfl, _⟩ := h
    rfl
  · obtain ⟨p, t, m, ps, rs, u, rfl, W, u0, u1, k⟩ := h
    have g := W.go
    have m24 := g.m24
    refine ⟨_, (pss_cons (ps_set (i := 2) sc_even_share.nd rfl (Or.inl n_even_share__near.l) (pe_call G_neighbours (hr.mono (by decide)) n_even_share__neighbours.g D_neighbours.m D_neighbours.F.kp D_neighbours.b .nil (passQ hq) (pa_cons (pvc 0 n_even_share__web) (pa_cons (pvc 1 n_even_share__place) pa_nil)) (hdb := n_even_share__neighbours.d))) (pss_one (ps_ret (pe_call G_minus (hr.mono (by decide)) n_even_share__minus.g D_minus.m D_minus.F.kp D_minus.b .nil (passQ hq) (pa_cons (pe_glob (v := .ref T.ONE) n_even_share__ONE.g T.m_ONE rfl (hd := n_even_share__ONE.d)) (pa_cons (pe_call G_sum_up (hr.mono (by decide)) n_even_share__sum_up.g D_sum_up.m D_sum_up.F.kp D_sum_up.b .nil (passQ hq) (pa_cons (pe_comp rfl (ct_clos (Nc := ["other", "web", "place"]) 1 [0, 1] (by decide +kernel) rfl (by decide +kernel) rfl (by show ∀ (y : Str × NameKind), y ∈ _ → y.2 = NameKind.free → (defScope s_even_share).names.lookup y.1 = some NameKind.cell; decide +kernel) rfl (fun _ h => cell_has h) (fun i hi => match i, hi with | 0, _ => ⟨"web", 0, rfl, rfl, rfl, by decide +kernel⟩ | 1, _ => ⟨"place", 1, rfl, rfl, rfl, by decide +kernel⟩ | i + 2, hi => absurd hi (by show ¬ i + 2 < 2; omega))) (pi_any true (pvl 2 n_even_share__near)) (fun _ _ _ _ => (pg_name (i := 0) (show (["other", "web", "place"] : List Str).Nodup from by decide +kernel) rfl (Or.inl rfl))) (fun _ _ _ _ => pts_nil) (fun _ _ _ _ => (pe_call G_road_part (hr.mono (by decide)) (by rfl) D_road_part.m D_road_part.F.kp D_road_part.b .nil (passQ hq) (pa_cons (pe_call G_toll (hr.mono (by decide)) (by rfl) D_toll.m D_toll.F.kp D_toll.b .nil (passQ hq) (pa_cons (pv 1) (pa_cons (pv 2) (pa_cons (pv 0) pa_nil)))) (pa_cons (pe_call G_toll (hr.mono (by decide)) (by rfl) D_toll.m D_toll.F.kp D_toll.b .nil (passQ hq) (pa_cons (pv 1) (pa_cons (pv 0) (pa_cons (pv 2) pa_nil)))) pa_nil))))) pa_nil) (hdb := n_even_share__sum_up.d)) pa_nil)) (hdb := n_even_share__minus.d))))), ?_⟩
    rw [show L2.start ["web", "place", "near"] [V.ref p, V.int u] = [some (V.ref p), some (V.int u), none] from rfl]
    refine cutS fun N1 h1 => ?_
    walk_at "rd"
    refine ⟨p, t, m, ps, rs, u, rfl, W, fun l H1 _ _ nl s1 el => h1 _ _ ?_, fun z => absurd ⟨u0, u1⟩ z⟩
    have W1 := W.same s1
    have nbl : (nbrs m rs u).length ≤ 24 := by
      have := List.length_filter_le (fun q => decide (q ∈ ends rs u)) (below m.toNat)
      rw [below_length] at this
      have e : (nbrs m rs u).length = ((below m.toNat).filter fun q => decide (q ∈ ends rs u)).length := rfl
      omega
    walk_at "rd"
    refine ⟨⟨_, SqL.of el⟩, fun pc npc => ?_⟩
    refine comp_any (K := K) (c := true) (xs := (nbrs m rs u).map V.int) (fun i ys σ H3 => Same H1 H3 ∧ H3 pc = some (.lst ys) ∧ ∃ (qs : List Addr) (fs : List (Int × Int)) (v : Option V), ys = qs.map V.ref ∧ qs.length = i ∧ FrsAt H3 qs fs ∧ (∀ f ∈ fs, FrB 40 f) ∧ rsum fs (fun f => (f.1 : Rat) / f.2) = rsum ((nbrs m rs u).take i) (evp rs u) ∧ σ = [v, some (V.ref p), some (V.int u)]) ⟨Same.new _ npc, upd_same, [], [], _, rfl, rfl, .nil, (fun f hf => nomatch hf), rfl, rfl⟩ (fun i ys σ H3 _ z => SqL.of (z.1 _ _ el)) ?_ ?_
    · rintro i x ys σ H3 N hN hx ⟨s3, e3, qs, fs, v, rfl, qi, hf, fb, su, rfl⟩
      rw [List.getElem?_map] at hx
      obtain ⟨o, go, rfl⟩ := Option.map_eq_some_iff.mp hx
      have ad := (mem_nbrs g).mp (List.mem_of_getElem? go)
      obtain ⟨_, or, _⟩ := g.adj ad
      obtain ⟨b, eb, b2, b6⟩ := toll_rng g ad
      obtain ⟨a, ea, a2, a6⟩ := toll_rng g ad.symm
      have il := (List.getElem?_eq_some_iff.mp go).1
      have W3 := W1.same s3
      walk_at "rd"
      refine ⟨p, t, m, ps, rs, u, o, rfl, W3, fun b' _ _ _ _ e => ?_, (fun z => absurd ⟨⟨u0, u1⟩, or⟩ z), (fun _ _ _ _ z => by rw [eb] at z; cases z)⟩
      rw [eb] at e
      cases e
      refine ⟨p, t, m, ps, rs, o, u, rfl, W3, fun a' _ _ _ _ e => ?_, (fun z => absurd ⟨or, ⟨u0, u1⟩⟩ z), (fun _ _ _ _ z => by rw [ea] at z; cases z)⟩
      rw [ea] at e
      cases e
      refine ⟨b, a, rfl, ⟨b2, b6⟩, ⟨a2, a6⟩, fun x y rr fr nr => ?_⟩
      have s4 := Same.new (.tup [V.int x, V.int y]) nr
      have ba4 : 4 ≤ b * a := by have := Int.mul_le_mul b2 a2 (by decide) (by omega); omega
      have bab : (b * a).natAbs < 2 ^ 40 := mul_bits (m := 20) (n := 20) (by omega) (by omega)
      obtain ⟨l1, l2⟩ := frc_bd fr (by omega)
      have npr : pc ≠ rr := fun z => by rw [z] at e3; rw [e3] at nr; cases nr
      refine ⟨s4 _ _ e3, small (by rw [List.length_map]; omega), hN _ _ _ ⟨(s3.trans s4).put npc _, upd_same, qs ++ [rr], fs ++ [(x, y)], _, by rw [List.map_append]; rfl, by rw [List.length_append, qi]; rfl, ?_, fun f hf => ?_, ?_, rfl⟩⟩
      · refine pr_snoc (by rw [upd_ne npr.symm]; exact upd_same) (Paired.imp' (fun q f h => ?_) hf)
        rw [upd_ne (ne_of (s4 _ _ h) (s4 _ _ e3) (by intro z; cases z))]
        exact s4 _ _ h
      · rcases List.mem_append.mp hf with h | h
        · exact fb f h
        · rw [List.mem_singleton.mp h]
          exact ⟨fr.pos, by show x.natAbs < 2 ^ 40; omega, by show y.natAbs < 2 ^ 40; omega⟩
      · rw [List.take_succ, go, Option.toList_some, rsum_snoc, rsum_snoc, su, frc_rat fr (by omega)]
        congr 1
        unfold evp tollD
        rw [eb, ea]
        show ((b - 1 : Int) : Rat) / ((b * a - 1 : Int) : Rat) = _
        rw [Rat.intCast_sub, Rat.intCast_sub, Rat.intCast_mul]
        rfl
    · rintro ys σ H3 ⟨s3, e3, qs, fs, v, rfl, qi, hf, fb, su, rfl⟩
      rw [List.length_map, List.take_length] at su
      rw [List.length_map] at qi
      have fl : qs.length = fs.length := Paired.length hf
      obtain ⟨mb1, mb2⟩ := mulL_bits (n := 40) (fs := fs) (tb := (0, 1)) (b := 1) fb (by decide) (by decide)
      have mp := mulL_pos (fs := fs) (tb := (0, 1)) (fun f h => (fb f h).1) (by decide)
      have mr := mulL_rat (fs := fs) (tb := (0, 1)) (fun f h => Int.ne_of_gt (fb f h).1) (by decide)
      refine ⟨pc, true, qs, fs, 40, rfl, e3, FrsAt.k hf, fb, by omega, by decide, by omega, fun x y r1 H4 fr nr s4 er => ?_⟩
      obtain ⟨l1, l2⟩ := frc_bd fr (Int.ne_of_gt mp)
      have rr := frc_rat fr (Int.ne_of_gt mp)
      have bx : x.natAbs < 2 ^ 985 := Nat.lt_of_le_of_lt l1 (Nat.lt_of_lt_of_le mb1 (Nat.pow_le_pow_right (by decide) (by omega)))
      have by' : y.natAbs < 2 ^ 985 := Nat.lt_of_le_of_lt l2 (Nat.lt_of_lt_of_le mb2 (Nat.pow_le_pow_right (by decide) (by omega)))
      have yp := fr.pos
      have one : (1 : Int).natAbs < 2 ^ 985 := Nat.one_lt_two_pow (by decide)
      refine ⟨T.ONE, r1, (1, 1), (x, y), 985, rfl, T.k_ONE.sq, SqT.of er, ⟨by decide, one, one⟩, ⟨yp, bx, by'⟩, by decide, fun x2 y2 r2 H5 fr2 nr2 s5 er2 => k (x2, y2) r2 H5 ?_ fr2.one ?_ (s1.free (s3.free (s4.free nr2))) (s1.trans (s3.trans (s4.trans s5))) er2⟩
      · obtain ⟨a1, a2⟩ := frc_bd fr2 (show (1 : Int) * y ≠ 0 by omega)
        have b1 : (1 * y - x * 1 : Int).natAbs < 2 ^ 986 := by
          have := add_bits (a := y) (b := -x) (n := 985) by' (by rw [Int.natAbs_neg]; exact bx)
          rwa [show 1 * y - x * 1 = y + -x by omega]
        refine ⟨fr2.pos, Nat.lt_of_le_of_lt a1 (up_bits b1 (by decide)), Nat.lt_of_le_of_lt a2 (up_bits (m := 985) (by rw [Int.one_mul]; exact by') (by decide))⟩
      · rw [frc_rat fr2 (show (1 : Int) * y ≠ 0 by omega)]
        unfold shr
        rw [← su]
        have e0 : (((0 : Int) : Rat) / ((1 : Int) : Rat)) = 0 := by rw [show ((0 : Int) : Rat) = 0 from rfl, Rat.div_def, Rat.zero_mul]
        have n1 := cast_ne (Int.ne_of_gt yp)
        show ((1 * y - x * 1 : Int) : Rat) / ((1 * y : Int) : Rat) = _
        rw [Int.one_mul, Int.mul_one, Rat.intCast_sub]
        grind
/-! #### even_shares -/
def sp_even_shares (T : Txt K mg) : Sp := fun vs H Q _ => ∃ (p t : Addr) (m : Int) (ps : List Addr) (rs : List Road), vs = [.ref p] ∧ WebAt T.Web H p m t ps rs ∧
  ∀ (l : Addr) (qs : List Addr) (fs : List (Int × Int)) (H' : Hp), H l = none → Same H H' → H' l = some (.lst (qs.map V.ref)) → FrsAt H' qs fs → (fs.length : Int) = m → (∀ f ∈ fs, FrB 990 f ∧ f.1.gcd f.2 = 1) → (∀ (i : Nat) f, fs[i]? = some f → (f.1 : Rat) / f.2 = shr m rs (evp rs) i) → Q (.ref l) H'
abbrev s_even_shares : Stmt := top 27
theorem sc_even_shares : FnScope ["web"] ["web"] (defScope s_even_shares) := FnScope.of (by kernel_rfl)
theorem n_even_shares__web : NmC (defScope s_even_shares) "web" := .of (by kernel_rfl)
theorem n_even_shares__range : NmG (defScope s_even_shares) "range" := .of (by kernel_rfl)

theorem ok_even_shares (T : Txt K mg) (hq : Quiet (CXe P w)) {f : Addr} {fd : FuncData} (D : Df K mg "even_shares" s_even_shares ["web"] f fd) {f_even_share : Addr} {fd_even_share : FuncData} (D_even_share : Df K mg "even_share" s_even_share ["web", "place"] f_even_share fd_even_share) (G_even_share : FnOk P w K mg base (CXe P w) 6 f_even_share fd_even_share ["web", "place"] (sp_even_share T)) : FnOk P w K mg base (CXe P w) 7 f fd ["web"] (sp_even_shares T) := by
  refine D.F.okC sc_even_shares (fun vs H Q E h => ?_) (fun cdv A outer s H vs Q E hr h => ?_)
  · obtain ⟨p, t, m, ps, rs, rfl, _⟩ := h
    rfl
  · obtain ⟨p, t, m, ps, rs, rfl, W, k⟩ := h
    have g := W.go
    have m24 := g.m24
    have m1 := g.m1
    refine ⟨_, (pss_one (ps_ret (pe_comp rfl (ct_clos (Nc := ["place", "web"]) 1 [0] (by decide +kernel) rfl (by decide +kernel) rfl (by show ∀ (y : Str × NameKind), y ∈ _ → y.2 = NameKind.free → (defScope s_even_shares).names.lookup y.1 = some NameKind.cell; decide +kernel) rfl (fun _ h => cell_has h) (fun i hi => match i, hi with | 0, _ => ⟨"web", 0, rfl, rfl, rfl, by decide +kernel⟩ | i + 1, hi => absurd hi (by show ¬ i + 1 < 1; omega))) (pi_range1 n_even_shares__range.g T.range (pa_cons (pe_fld  (pvc 0 n_even_shares__web) rfl) pa_nil)) (fun _ _ _ _ => (pg_name (i := 0) (show (["place", "web"] : List Str).Nodup from by decide +kernel) rfl (Or.inl rfl))) (fun _ _ _ _ => pts_nil) (fun _ _ _ _ => (pe_call G_even_share (hr.mono (by decide)) (by rfl) D_even_share.m D_even_share.F.kp D_even_share.b .nil (passQ hq) (pa_cons (pv 1) (pa_cons (pv 0) pa_nil))))))), ?_⟩
    rw [show L2.start ["web"] [V.ref p] = [some (V.ref p)] from rfl]
    obtain ⟨dx, ob⟩ := W.ob
    walk_at "rd"
    refine ⟨T.Web, dx, _, ob, T.cl_Web, T.n_many, _, wflds_many m t, m, rfl, by omega, by omega, fun pc nc => ?_⟩
    refine comp_range (fun i zs σ H3 => Same H H3 ∧ H3 pc = some (.lst zs) ∧ ∃ (qs : List Addr) (fs : List (Int × Int)) (v : Option V), zs = qs.map V.ref ∧ qs.length = i ∧ FrsAt H3 qs fs ∧ (∀ f ∈ fs, FrB 990 f ∧ f.1.gcd f.2 = 1) ∧ (∀ (i : Nat) f, fs[i]? = some f → (f.1 : Rat) / f.2 = shr m rs (evp rs) i) ∧ σ = [v, some (V.ref p)]) ⟨Same.new _ nc, upd_same, [], [], _, rfl, rfl, .nil, (fun f hf => nomatch hf), (fun i f h => by simp at h), rfl⟩ ?_ ?_
    · rintro i zs σ H3 N hN hi ⟨s3, e3, qs, fs, v, rfl, qi, hf, fb, fv, rfl⟩
      rw [Int.zero_add]
      have i0 : (0 : Int) ≤ (i : Int) := by omega
      have i1 : (i : Int) < m := by omega
      have fl : qs.length = fs.length := Paired.length hf
      walk_at "rd"
      refine ⟨p, t, m, ps, rs, (i : Int), rfl, W.same s3, i0, i1, fun f r H4 fB fg fr nr s4 er => ?_⟩
      have npr : r ≠ pc := fun z => by rw [z, e3] at nr; cases nr
      refine ⟨s4 _ _ e3, small (by rw [List.length_map]; omega), hN _ _ _ ⟨(s3.trans s4).put nc _, upd_same, qs ++ [r], fs ++ [f], _, by rw [List.map_append]; rfl, by rw [List.length_append, qi]; rfl, ?_, fun f' hf' => ?_, fun j f' hj => ?_, rfl⟩⟩
      · refine pr_snoc (by rw [upd_ne npr]; exact er) (Paired.imp' (fun q f h => ?_) hf)
        rw [upd_ne (ne_of (s4 _ _ h) (s4 _ _ e3) (by intro z; cases z))]
        exact s4 _ _ h
      · rcases List.mem_append.mp hf' with h | h
        · exact fb f' h
        · rw [List.mem_singleton.mp h]; exact ⟨fB, fg⟩
      · by_cases c : j < fs.length
        · rw [List.getElem?_append_left c] at hj
          exact fv j f' hj
        · have jl := (List.getElem?_eq_some_iff.mp hj).1
          rw [List.length_append, List.length_singleton] at jl
          have : j = i := by omega
          subst this
          rw [List.getElem?_append_right (by omega), show j - fs.length = 0 by omega] at hj
          cases hj
          exact fr
    · rintro zs σ H3 ⟨s3, e3, qs, fs, v, rfl, qi, hf, fb, fv, rfl⟩
      have fl : qs.length = fs.length := Paired.length hf
      exact k pc qs fs H3 nc s3 e3 hf (by omega) fb fv
/-! #### second_share -/
def sp_second_share (T : Txt K mg) : Sp := fun vs H Q _ => ∃ (p t : Addr) (m : Int) (ps : List Addr) (rs : List Road) (u : Int), vs = [.ref p, .int u] ∧ WebAt T.Web H p m t ps rs ∧ 0 ≤ u ∧ u < m ∧
  ∀ (f : Int × Int) (r : Addr) (H' : Hp), FrB 990 f → f.1.gcd f.2 = 1 → (f.1 : Rat) / f.2 = shr m rs (sep rs) u → H r = none → Same H H' → H' r = some (.tup [.int f.1, .int f.2]) → Q (.ref r) H'
abbrev s_second_share : Stmt := top 30
theorem sc_second_share : FnScope ["web", "place", "near"] ["web", "place"] (defScope s_second_share) := FnScope.of (by kernel_rfl)
theorem n_second_share__web : NmC (defScope s_second_share) "web" := .of (by kernel_rfl)
theorem n_second_share__place : NmC (defScope s_second_share) "place" := .of (by kernel_rfl)
theorem n_second_share__near : NmL (defScope s_second_share) "near" := .of (by kernel_rfl)
theorem n_second_share__neighbours : NmG (defScope s_second_share) "neighbours" := .of (by kernel_rfl)
theorem n_second_share__minus : NmG (defScope s_second_share) "minus" := .of (by kernel_rfl)
theorem n_second_share__ONE : NmG (defScope s_second_share) "ONE" := .of (by kernel_rfl)
theorem n_second_share__sum_up : NmG (defScope s_second_share) "sum_up" := .of (by kernel_rfl)

theorem ok_second_share (T : Txt K mg) (hq : Quiet (CXe P w)) {f : Addr} {fd : FuncData} (D : Df K mg "second_share" s_second_share ["web", "place"] f fd) {f_minus : Addr} {fd_minus : FuncData} (D_minus : Df K mg "minus" s_minus ["one", "two"] f_minus fd_minus) (G_minus : FnOk P w K mg base (CXe P w) 5 f_minus fd_minus ["one", "two"] (sp_minus T)) {f_neighbours : Addr} {fd_neighbours : FuncData} (D_neighbours : Df K mg "neighbours" s_neighbours ["web", "a"] f_neighbours fd_neighbours) (G_neighbours : FnOk P w K mg base (CXe P w) 3 f_neighbours fd_neighbours ["web", "a"] (sp_neighbours T)) {f_road_part : Addr} {fd_road_part : FuncData} (D_road_part : Df K mg "road_part" s_road_part ["one", "other"] f_road_part fd_road_part) (G_road_part : FnOk P w K mg base (CXe P w) 3 f_road_part fd_road_part ["one", "other"] (sp_road_part T)) {f_sum_up : Addr} {fd_sum_up : FuncData} (D_sum_up : Df K mg "sum_up" s_sum_up ["some"] f_sum_up fd_sum_up) (G_sum_up : FnOk P w K mg base (CXe P w) 3 f_sum_up fd_sum_up ["some"] (sp_sum_up T)) {f_toll : Addr} {fd_toll : FuncData} (D_toll : Df K mg "toll" s_toll ["web", "a", "b"] f_toll fd_toll) (G_toll : FnOk P w K mg base (CXe P w) 3 f_toll fd_toll ["web", "a", "b"] (sp_toll T)) : FnOk P w K mg base (CXe P w) 6 f fd ["web", "place"] (sp_second_share T) := by
  refine D.F.okC sc_second_share (fun vs H Q E h => ?_) (fun cdv A outer s H vs Q E hr h => ?_)
  · obtain ⟨p, t, m, ps, rs, u, rfl, _⟩ := h
    rfl
  · obtain ⟨p, t, m, ps, rs, u, rfl, W, u0, u1, k⟩ := h
    have g := W.go
    have m24 := g.m24
    refine ⟨_, (pss_cons (ps_set (i := 2) sc_second_share.nd rfl (Or.inl n_second_share__near.l) (pe_call G_neighbours (hr.mono (by decide)) n_second_share__neighbours.g D_neighbours.m D_neighbours.F.kp D_neighbours.b .nil (passQ hq) (pa_cons (pvc 0 n_second_share__web) (pa_cons (pvc 1 n_second_share__place) pa_nil)) (hdb := n_second_share__neighbours.d))) (pss_one (ps_ret (pe_call G_minus (hr.mono (by decide)) n_second_share__minus.g D_minus.m D_minus.F.kp D_minus.b .nil (passQ hq) (pa_cons (pe_glob (v := .ref T.ONE) n_second_share__ONE.g T.m_ONE rfl (hd := n_second_share__ONE.d)) (pa_cons (pe_call G_sum_up (hr.mono (by decide)) n_second_share__sum_up.g D_sum_up.m D_sum_up.F.kp D_sum_up.b .nil (passQ hq) (pa_cons (pe_comp rfl (ct_clos (Nc := ["other", "web", "place"]) 1 [0, 1] (by decide +kernel) rfl (by decide +kernel) rfl (by show ∀ (y : Str × NameKind), y ∈ _ → y.2 = NameKind.free → (defScope s_second_share).names.lookup y.1 = some NameKind.cell; decide +kernel) rfl (fun _ h => cell_has h) (fun i hi => match i, hi with | 0, _ => ⟨"web", 0, rfl, rfl, rfl, by decide +kernel⟩ | 1, _ => ⟨"place", 1, rfl, rfl, rfl, by decide +kernel⟩ | i + 2, hi => absurd hi (by show ¬ i + 2 < 2; omega))) (pi_any true (pvl 2 n_second_share__near)) (fun _ _ _ _ => (pg_name (i := 0) (show (["other", "web", "place"] : List Str).Nodup from by decide +kernel) rfl (Or.inl rfl))) (fun _ _ _ _ => pts_nil) (fun _ _ _ _ => (pe_call G_road_part (hr.mono (by decide)) (by rfl) D_road_part.m D_road_part.F.kp D_road_part.b .nil (passQ hq) (pa_cons (pe_call G_toll (hr.mono (by decide)) (by rfl) D_toll.m D_toll.F.kp D_toll.b .nil (passQ hq) (pa_cons (pv 1) (pa_cons (pv 0) (pa_cons (pv 2) pa_nil)))) (pa_cons (pe_call G_toll (hr.mono (by decide)) (by rfl) D_toll.m D_toll.F.kp D_toll.b .nil (passQ hq) (pa_cons (pv 1) (pa_cons (pv 2) (pa_cons (pv 0) pa_nil)))) pa_nil))))) pa_nil) (hdb := n_second_share__sum_up.d)) pa_nil)) (hdb := n_second_share__minus.d))))), ?_⟩
    rw [show L2.start ["web", "place", "near"] [V.ref p, V.int u] = [some (V.ref p), some (V.int u), none] from rfl]
    refine cutS fun N1 h1 => ?_
    walk_at "rd"
    refine ⟨p, t, m, ps, rs, u, rfl, W, fun l H1 _ _ nl s1 el => h1 _ _ ?_, fun z => absurd ⟨u0, u1⟩ z⟩
    have W1 := W.same s1
    have nbl : (nbrs m rs u).length ≤ 24 := by
      have := List.length_filter_le (fun q => decide (q ∈ ends rs u)) (below m.toNat)
      rw [below_length] at this
      have e : (nbrs m rs u).length = ((below m.toNat).filter fun q => decide (q ∈ ends rs u)).length := rfl
      omega
    walk_at "rd"
    refine ⟨⟨_, SqL.of el⟩, fun pc npc => ?_⟩
    refine comp_any (K := K) (c := true) (xs := (nbrs m rs u).map V.int) (fun i ys σ H3 => Same H1 H3 ∧ H3 pc = some (.lst ys) ∧ ∃ (qs : List Addr) (fs : List (Int × Int)) (v : Option V), ys = qs.map V.ref ∧ qs.length = i ∧ FrsAt H3 qs fs ∧ (∀ f ∈ fs, FrB 40 f) ∧ rsum fs (fun f => (f.1 : Rat) / f.2) = rsum ((nbrs m rs u).take i) (sep rs u) ∧ σ = [v, some (V.ref p), some (V.int u)]) ⟨Same.new _ npc, upd_same, [], [], _, rfl, rfl, .nil, (fun f hf => nomatch hf), rfl, rfl⟩ (fun i ys σ H3 _ z => SqL.of (z.1 _ _ el)) ?_ ?_
    · rintro i x ys σ H3 N hN hx ⟨s3, e3, qs, fs, v, rfl, qi, hf, fb, su, rfl⟩
      rw [List.getElem?_map] at hx
      obtain ⟨o, go, rfl⟩ := Option.map_eq_some_iff.mp hx
      have ad := (mem_nbrs g).mp (List.mem_of_getElem? go)
      obtain ⟨_, or, _⟩ := g.adj ad
      obtain ⟨b, eb, b2, b6⟩ := toll_rng g ad.symm
      obtain ⟨a, ea, a2, a6⟩ := toll_rng g ad
      have il := (List.getElem?_eq_some_iff.mp go).1
      have W3 := W1.same s3
      walk_at "rd"
      refine ⟨p, t, m, ps, rs, o, u, rfl, W3, fun b' _ _ _ _ e => ?_, (fun z => absurd ⟨or, ⟨u0, u1⟩⟩ z), (fun _ _ _ _ z => by rw [eb] at z; cases z)⟩
      rw [eb] at e
      cases e
      refine ⟨p, t, m, ps, rs, u, o, rfl, W3, fun a' _ _ _ _ e => ?_, (fun z => absurd ⟨⟨u0, u1⟩, or⟩ z), (fun _ _ _ _ z => by rw [ea] at z; cases z)⟩
      rw [ea] at e
      cases e
      refine ⟨b, a, rfl, ⟨b2, b6⟩, ⟨a2, a6⟩, fun x y rr fr nr => ?_⟩
      have s4 := Same.new (.tup [V.int x, V.int y]) nr
      have ba4 : 4 ≤ b * a := by have := Int.mul_le_mul b2 a2 (by decide) (by omega); omega
      have bab : (b * a).natAbs < 2 ^ 40 := mul_bits (m := 20) (n := 20) (by omega) (by omega)
      obtain ⟨l1, l2⟩ := frc_bd fr (by omega)
      have npr : pc ≠ rr := fun z => by rw [z] at e3; rw [e3] at nr; cases nr
      refine ⟨s4 _ _ e3, small (by rw [List.length_map]; omega), hN _ _ _ ⟨(s3.trans s4).put npc _, upd_same, qs ++ [rr], fs ++ [(x, y)], _, by rw [List.map_append]; rfl, by rw [List.length_append, qi]; rfl, ?_, fun f hf => ?_, ?_, rfl⟩⟩
      · refine pr_snoc (by rw [upd_ne npr.symm]; exact upd_same) (Paired.imp' (fun q f h => ?_) hf)
        rw [upd_ne (ne_of (s4 _ _ h) (s4 _ _ e3) (by intro z; cases z))]
        exact s4 _ _ h
      · rcases List.mem_append.mp hf with h | h
        · exact fb f h
        · rw [List.mem_singleton.mp h]
          exact ⟨fr.pos, by show x.natAbs < 2 ^ 40; omega, by show y.natAbs < 2 ^ 40; omega⟩
      · rw [List.take_succ, go, Option.toList_some, rsum_snoc, rsum_snoc, su, frc_rat fr (by omega)]
        congr 1
        unfold sep tollD
        rw [eb, ea]
        show ((b - 1 : Int) : Rat) / ((b * a - 1 : Int) : Rat) = _
        rw [Rat.intCast_sub, Rat.intCast_sub, Rat.intCast_mul]
        rfl
    · rintro ys σ H3 ⟨s3, e3, qs, fs, v, rfl, qi, hf, fb, su, rfl⟩
      rw [List.length_map, List.take_length] at su
      rw [List.length_map] at qi
      have fl : qs.length = fs.length := Paired.length hf
      obtain ⟨mb1, mb2⟩ := mulL_bits (n := 40) (fs := fs) (tb := (0, 1)) (b := 1) fb (by decide) (by decide)
      have mp := mulL_pos (fs := fs) (tb := (0, 1)) (fun f h => (fb f h).1) (by decide)
      have mr := mulL_rat (fs := fs) (tb := (0, 1)) (fun f h => Int.ne_of_gt (fb f h).1) (by decide)
      refine ⟨pc, true, qs, fs, 40, rfl, e3, FrsAt.k hf, fb, by omega, by decide, by omega, fun x y r1 H4 fr nr s4 er => ?_⟩
      obtain ⟨l1, l2⟩ := frc_bd fr (Int.ne_of_gt mp)
      have rr := frc_rat fr (Int.ne_of_gt mp)
      have bx : x.natAbs < 2 ^ 985 := Nat.lt_of_le_of_lt l1 (Nat.lt_of_lt_of_le mb1 (Nat.pow_le_pow_right (by decide) (by omega)))
      have by' : y.natAbs < 2 ^ 985 := Nat.lt_of_le_of_lt l2 (Nat.lt_of_lt_of_le mb2 (Nat.pow_le_pow_right (by decide) (by omega)))
      have yp := fr.pos
      have one : (1 : Int).natAbs < 2 ^ 985 := Nat.one_lt_two_pow (by decide)
      refine ⟨T.ONE, r1, (1, 1), (x, y), 985, rfl, T.k_ONE.sq, SqT.of er, ⟨by decide, one, one⟩, ⟨yp, bx, by'⟩, by decide, fun x2 y2 r2 H5 fr2 nr2 s5 er2 => k (x2, y2) r2 H5 ?_ fr2.one ?_ (s1.free (s3.free (s4.free nr2))) (s1.trans (s3.trans (s4.trans s5))) er2⟩
      · obtain ⟨a1, a2⟩ := frc_bd fr2 (show (1 : Int) * y ≠ 0 by omega)
        have b1 : (1 * y - x * 1 : Int).natAbs < 2 ^ 986 := by
          have := add_bits (a := y) (b := -x) (n := 985) by' (by rw [Int.natAbs_neg]; exact bx)
          rwa [show 1 * y - x * 1 = y + -x by omega]
        refine ⟨fr2.pos, Nat.lt_of_le_of_lt a1 (up_bits b1 (by decide)), Nat.lt_of_le_of_lt a2 (up_bits (m := 985) (by rw [Int.one_mul]; exact by') (by decide))⟩
      · rw [frc_rat fr2 (show (1 : Int) * y ≠ 0 by omega)]
        unfold shr
        rw [← su]
        have e0 : (((0 : Int) : Rat) / ((1 : Int) : Rat)) = 0 := by rw [show ((0 : Int) : Rat) = 0 from rfl, Rat.div_def, Rat.zero_mul]
        have n1 := cast_ne (Int.ne_of_gt yp)
        show ((1 * y - x * 1 : Int) : Rat) / ((1 * y : Int) : Rat) = _
        rw [Int.one_mul, Int.mul_one, Rat.intCast_sub]
        grind
/-! #### second_shares -/
def sp_second_shares (T : Txt K mg) : Sp := fun vs H Q _ => ∃ (p t : Addr) (m : Int) (ps : List Addr) (rs : List Road), vs = [.ref p] ∧ WebAt T.Web H p m t ps rs ∧
  ∀ (l : Addr) (qs : List Addr) (fs : List (Int × Int)) (H' : Hp), H l = none → Same H H' → H' l = some (.lst (qs.map V.ref)) → FrsAt H' qs fs → (fs.length : Int) = m → (∀ f ∈ fs, FrB 990 f ∧ f.1.gcd f.2 = 1) → (∀ (i : Nat) f, fs[i]? = some f → (f.1 : Rat) / f.2 = shr m rs (sep rs) i) → Q (.ref l) H'
abbrev s_second_shares : Stmt := top 29
theorem sc_second_shares : FnScope ["web"] ["web"] (defScope s_second_shares) := FnScope.of (by kernel_rfl)
theorem n_second_shares__web : NmC (defScope s_second_shares) "web" := .of (by kernel_rfl)
theorem n_second_shares__range : NmG (defScope s_second_shares) "range" := .of (by kernel_rfl)

theorem ok_second_shares (T : Txt K mg) (hq : Quiet (CXe P w)) {f : Addr} {fd : FuncData} (D : Df K mg "second_shares" s_second_shares ["web"] f fd) {f_second_share : Addr} {fd_second_share : FuncData} (D_second_share : Df K mg "second_share" s_second_share ["web", "place"] f_second_share fd_second_share) (G_second_share : FnOk P w K mg base (CXe P w) 6 f_second_share fd_second_share ["web", "place"] (sp_second_share T)) : FnOk P w K mg base (CXe P w) 7 f fd ["web"] (sp_second_shares T) := by
  refine D.F.okC sc_second_shares (fun vs H Q E h => ?_) (fun cdv A outer s H vs Q E hr h => ?_)
  · obtain ⟨p, t, m, ps, rs, rfl, _⟩ := h
    rfl
  · obtain ⟨p, t, m, ps, rs, rfl, W, k⟩ := h
    have g := W.go
    have m24 := g.m24
    have m1 := g.m1
    refine ⟨_, (pss_one (ps_ret (pe_comp rfl (ct_clos (Nc := ["place", "web"]) 1 [0] (by decide +kernel) rfl (by decide +kernel) rfl (by show ∀ (y : Str × NameKind), y ∈ _ → y.2 = NameKind.free → (defScope s_second_shares).names.lookup y.1 = some NameKind.cell; decide +kernel) rfl (fun _ h => cell_has h) (fun i hi => match i, hi with | 0, _ => ⟨"web", 0, rfl, rfl, rfl, by decide +kernel⟩ | i + 1, hi => absurd hi (by show ¬ i + 1 < 1; omega))) (pi_range1 n_second_shares__range.g T.range (pa_cons (pe_fld  (pvc 0 n_second_shares__web) rfl) pa_nil)) (fun _ _ _ _ => (pg_name (i := 0) (show (["place", "web"] : List Str).Nodup from by decide +kernel) rfl (Or.inl rfl))) (fun _ _ _ _ => pts_nil) (fun _ _ _ _ => (pe_call G_second_share (hr.mono (by decide)) (by rfl) D_second_share.m D_second_share.F.kp D_second_share.b .nil (passQ hq) (pa_cons (pv 1) (pa_cons (pv 0) pa_nil))))))), ?_⟩
    rw [show L2.start ["web"] [V.ref p] = [some (V.ref p)] from rfl]
    obtain ⟨dx, ob⟩ := W.ob
    walk_at "rd"
    refine ⟨T.Web, dx, _, ob, T.cl_Web, T.n_many, _, wflds_many m t, m, rfl, by omega, by omega, fun pc nc => ?_⟩
    refine comp_range (fun i zs σ H3 => Same H H3 ∧ H3 pc = some (.lst zs) ∧ ∃ (qs : List Addr) (fs : List (Int × Int)) (v : Option V), zs = qs.map V.ref ∧ qs.length = i ∧ FrsAt H3 qs fs ∧ (∀ f ∈ fs, FrB 990 f ∧ f.1.gcd f.2 = 1) ∧ (∀ (i : Nat) f, fs[i]? = some f → (f.1 : Rat) / f.2 = shr m rs (sep rs) i) ∧ σ = [v, some (V.ref p)]) ⟨Same.new _ nc, upd_same, [], [], _, rfl, rfl, .nil, (fun f hf => nomatch hf), (fun i f h => by simp at h), rfl⟩ ?_ ?_
    · rintro i zs σ H3 N hN hi ⟨s3, e3, qs, fs, v, rfl, qi, hf, fb, fv, rfl⟩
      rw [Int.zero_add]
      have i0 : (0 : Int) ≤ (i : Int) := by omega
      have i1 : (i : Int) < m := by omega
      have fl : qs.length = fs.length := Paired.length hf
      walk_at "rd"
      refine ⟨p, t, m, ps, rs, (i : Int), rfl, W.same s3, i0, i1, fun f r H4 fB fg fr nr s4 er => ?_⟩
      have npr : r ≠ pc := fun z => by rw [z, e3] at nr; cases nr
      refine ⟨s4 _ _ e3, small (by rw [List.length_map]; omega), hN _ _ _ ⟨(s3.trans s4).put nc _, upd_same, qs ++ [r], fs ++ [f], _, by rw [List.map_append]; rfl, by rw [List.length_append, qi]; rfl, ?_, fun f' hf' => ?_, fun j f' hj => ?_, rfl⟩⟩
      · refine pr_snoc (by rw [upd_ne npr]; exact er) (Paired.imp' (fun q f h => ?_) hf)
        rw [upd_ne (ne_of (s4 _ _ h) (s4 _ _ e3) (by intro z; cases z))]
        exact s4 _ _ h
      · rcases List.mem_append.mp hf' with h | h
        · exact fb f' h
        · rw [List.mem_singleton.mp h]; exact ⟨fB, fg⟩
      · by_cases c : j < fs.length
        · rw [List.getElem?_append_left c] at hj
          exact fv j f' hj
        · have jl := (List.getElem?_eq_some_iff.mp hj).1
          rw [List.length_append, List.length_singleton] at jl
          have : j = i := by omega
          subst this
          rw [List.getElem?_append_right (by omega), show j - fs.length = 0 by omega] at hj
          cases hj
          exact fr
    · rintro zs σ H3 ⟨s3, e3, qs, fs, v, rfl, qi, hf, fb, fv, rfl⟩
      have fl : qs.length = fs.length := Paired.length hf
      exact k pc qs fs H3 nc s3 e3 hf (by omega) fb fv
/-! #### law -/
def spLaw (K : PySem.W.Frag) : Sp := fun vs H Q _ => ∃ (a : Addr) (ns : List Int), vs = [.ref a] ∧ SqL K H a (ns.map V.int) ∧ ns.length ≤ 63 ∧ ∀ H', Q (.bl true) H'
/-- a list of shares in the heap -/
def ShAt (m : Int) (rs : List Road) (H : Hp) (q : Addr) (b : Bool) : Prop := ∃ (qs : List Addr) (fs : List (Int × Int)), H q = some (.lst (qs.map V.ref)) ∧ FrsAt H qs fs ∧ Shs m rs (if b = true then sep rs else evp rs) fs
theorem ShAt.same {m : Int} {rs : List Road} {H H' : Hp} {q : Addr} {b : Bool} (s : Same H H') (h : ShAt m rs H q b) : ShAt m rs H' q b :=
  let ⟨qs, fs, h1, h2, h3⟩ := h; ⟨qs, fs, s _ _ h1, h2.same s, h3⟩
theorem ShAt.put {m : Int} {rs : List Road} {H : Hp} {q p : Addr} {b : Bool} {xs ys : List V} (h : ShAt m rs H q b) (hp : H p = some (.lst xs)) (n : q ≠ p) : ShAt m rs (upd H p (.lst ys)) q b := by
  obtain ⟨qs, fs, h1, h2, h3⟩ := h
  exact ⟨qs, fs, by rw [upd_ne n]; exact h1, Paired.imp' (fun a f e => by rw [upd_ne (ne_of e hp (by intro z; cases z))]; exact e) h2, h3⟩
def sp_law (T : Txt K mg) : Sp := spLaw K
abbrev s_law : Stmt := top 48
theorem sc_law : FnScope ["script", "many", "roads", "web", "tolls", "due", "turn", "found"] ["script"] (defScope s_law) := FnScope.of (by kernel_rfl)
theorem n_law__script : NmL (defScope s_law) "script" := .of (by kernel_rfl)
theorem n_law__many : NmC (defScope s_law) "many" := .of (by kernel_rfl)
theorem n_law__roads : NmL (defScope s_law) "roads" := .of (by kernel_rfl)
theorem n_law__web : NmL (defScope s_law) "web" := .of (by kernel_rfl)
theorem n_law__tolls : NmC (defScope s_law) "tolls" := .of (by kernel_rfl)
theorem n_law__due : NmL (defScope s_law) "due" := .of (by kernel_rfl)
theorem n_law__turn : NmL (defScope s_law) "turn" := .of (by kernel_rfl)
theorem n_law__found : NmL (defScope s_law) "found" := .of (by kernel_rfl)
theorem n_law__law_web : NmG (defScope s_law) "_law_web" := .of (by kernel_rfl)
theorem n_law__Web : NmG (defScope s_law) "Web" := .of (by kernel_rfl)
theorem n_law__list : NmG (defScope s_law) "list" := .of (by kernel_rfl)
theorem n_law__law_tolls : NmG (defScope s_law) "_law_tolls" := .of (by kernel_rfl)
theorem n_law__range : NmG (defScope s_law) "range" := .of (by kernel_rfl)
theorem n_law__even_shares : NmG (defScope s_law) "even_shares" := .of (by kernel_rfl)
theorem n_law__second_shares : NmG (defScope s_law) "second_shares" := .of (by kernel_rfl)
theorem n_law__law_fractions : NmG (defScope s_law) "_law_fractions" := .of (by kernel_rfl)

theorem ok_law (T : Txt K mg) (hq : Quiet (CXe P w)) {f : Addr} {fd : FuncData} (D : Df K mg "law" s_law ["script"] f fd) {f_Web___init__ : Addr} {fd_Web___init__ : FuncData} (F_Web___init__ : Fun K "__init__" "Web.__init__" s_Web___init__ f_Web___init__ fd_Web___init__) (b_Web : Binds K fd_Web___init__ ["self", "many", "roads"] []) (M_Web : Mk K T.Web f_Web___init__) (G_Web_init : FnOk P w K mg base (CXe P w) 3 f_Web___init__ fd_Web___init__ ["self", "many", "roads"] (sp_Web___init__ T)) {f_law_fractions : Addr} {fd_law_fractions : FuncData} (D_law_fractions : Df K mg "_law_fractions" s_law_fractions ["found", "many"] f_law_fractions fd_law_fractions) (G_law_fractions : FnOk P w K mg base (CXe P w) 3 f_law_fractions fd_law_fractions ["found", "many"] (sp_law_fractions T)) {f_law_share : Addr} {fd_law_share : FuncData} (D_law_share : Df K mg "_law_share" s_law_share ["many", "tolls", "place", "second"] f_law_share fd_law_share) (G_law_share : FnOk P w K mg base (CXe P w) 3 f_law_share fd_law_share ["many", "tolls", "place", "second"] (sp_law_share T)) {f_law_tolls : Addr} {fd_law_tolls : FuncData} (D_law_tolls : Df K mg "_law_tolls" s_law_tolls ["roads"] f_law_tolls fd_law_tolls) (G_law_tolls : FnOk P w K mg base (CXe P w) 1 f_law_tolls fd_law_tolls ["roads"] (sp_law_tolls T)) {f_law_web : Addr} {fd_law_web : FuncData} (D_law_web : Df K mg "_law_web" s_law_web ["script", "sizes"] f_law_web fd_law_web) (G_law_web : FnOk P w K mg base (CXe P w) 4 f_law_web fd_law_web ["script", "sizes"] (sp_law_web T)) {f_even_shares : Addr} {fd_even_shares : FuncData} (D_even_shares : Df K mg "even_shares" s_even_shares ["web"] f_even_shares fd_even_shares) (G_even_shares : FnOk P w K mg base (CXe P w) 7 f_even_shares fd_even_shares ["web"] (sp_even_shares T)) {f_second_shares : Addr} {fd_second_shares : FuncData} (D_second_shares : Df K mg "second_shares" s_second_shares ["web"] f_second_shares fd_second_shares) (G_second_shares : FnOk P w K mg base (CXe P w) 7 f_second_shares fd_second_shares ["web"] (sp_second_shares T)) : FnOk P w K mg base (CXe P w) 8 f fd ["script"] (sp_law T) := by
  refine D.F.okC sc_law (fun vs H Q E h => ?_) (fun cdv A outer s H vs Q E hr h => ?_)
  · obtain ⟨a, ns, rfl, _⟩ := h
    rfl
  · obtain ⟨a, ns, rfl, ha, hn, k⟩ := h
    have hv := hr.units
    refine ⟨_, (pss_cons (ps_asg (pe_call G_law_web (hr.mono (by decide)) n_law__law_web.g D_law_web.m D_law_web.F.kp D_law_web.b .nil (passQ hq) (pa_cons (pvl 0 n_law__script) (pa_cons (pe_lst (pa_cons pe_int (pa_cons pe_int (pa_cons pe_int (pa_cons pe_int (pa_cons pe_int (pa_cons pe_int (pa_cons pe_int (pa_cons pe_int (pa_cons pe_int (pa_cons pe_int pa_nil))))))))))) pa_nil)) (hdb := n_law__law_web.d)) (pg_tup (n := 2) rfl (pgs_cons (pg_name (i := 1) sc_law.nd rfl (Or.inr n_law__many.l)) (pgs_cons (pg_name (i := 2) sc_law.nd rfl (Or.inl n_law__roads.l)) pgs_nil)))) (pss_cons (ps_set (i := 3) sc_law.nd rfl (Or.inl n_law__web.l) (pe_make M_Web G_Web_init (hr.mono (by decide)) n_law__Web.g T.m_Web b_Web .nil (passQ hq) (pa_cons (pvc 1 n_law__many) (pa_cons (pe_callTy call_list_of n_law__list.g T.list pb_list (pa_cons (pvl 2 n_law__roads) pa_nil) (hn := n_law__list.n) (hdb := n_law__list.d)) pa_nil)) (hdb := n_law__Web.d))) (pss_cons (ps_set (i := 4) sc_law.nd rfl (Or.inr n_law__tolls.l) (pe_call G_law_tolls (hr.mono (by decide)) n_law__law_tolls.g D_law_tolls.m D_law_tolls.F.kp D_law_tolls.b .nil (passQ hq) (pa_cons (pvl 2 n_law__roads) pa_nil) (hdb := n_law__law_tolls.d))) (pss_cons (ps_nest (i := 5) sc_law.nd rfl n_law__due.l rfl (ct_clos1 (Nc := ["second", "many", "tolls"]) "second" 1 [1, 4] (by decide +kernel) (fun _ _ _ => ⟨rfl, rfl⟩) rfl (by decide +kernel) rfl (by show ∀ (y : Str × NameKind), y ∈ _ → y.2 = NameKind.free → (defScope s_law).names.lookup y.1 = some NameKind.cell; decide +kernel) rfl (fun _ h => cell_has h) (fun i hi => match i, hi with | 0, _ => ⟨"many", 1, rfl, rfl, rfl, by decide +kernel, by decide +kernel⟩ | 1, _ => ⟨"tolls", 4, rfl, rfl, rfl, by decide +kernel, by decide +kernel⟩ | i + 2, hi => absurd hi (by show ¬ i + 2 < 2; omega))) (pi_any true (pe_lst (pa_cons pe_bl (pa_cons pe_bl pa_nil)))) (fun _ _ _ _ => (pg_name (i := 0) (show (["second", "many", "tolls"] : List Str).Nodup from by decide +kernel) rfl (Or.inr rfl))) (fun _ _ _ _ => pts_nil) (fun _ _ _ _ hcell => (pe_comp rfl (ct_clos (Nc := ["place", "many", "tolls", "second"]) 1 [1, 2, 0] (by decide +kernel) rfl (by decide +kernel) rfl (hf_nest (defScope s_law) rfl (by decide +kernel)) rfl hcell (fun i hi => match i, hi with | 0, _ => ⟨"many", 1, rfl, rfl, rfl, by decide +kernel⟩ | 1, _ => ⟨"tolls", 2, rfl, rfl, rfl, by decide +kernel⟩ | 2, _ => ⟨"second", 0, rfl, rfl, rfl, by decide +kernel⟩ | i + 3, hi => absurd hi (by show ¬ i + 3 < 3; omega))) (pi_range1 (by rfl) T.range (pa_cons (pv 1) pa_nil)) (fun _ _ _ _ => (pg_name (i := 0) (show (["place", "many", "tolls", "second"] : List Str).Nodup from by decide +kernel) rfl (Or.inl rfl))) (fun _ _ _ _ => pts_nil) (fun _ _ _ _ => (pe_call G_law_share (hr.mono (by decide)) (by rfl) D_law_share.m D_law_share.F.kp D_law_share.b .nil (passQ hq) (pa_cons (pv 1) (pa_cons (pv 2) (pa_cons (pv 0) (pa_cons (pv 3) pa_nil))))))))) (pss_cons (ps_for PassesOwn.never rfl (pi_range1 n_law__range.g T.range (pa_cons pe_int pa_nil)) (pg_name (i := 6) sc_law.nd rfl (Or.inl n_law__turn.l)) (pss_cons (ps_set (i := 7) sc_law.nd rfl (Or.inl n_law__found.l) (pe_lst (pa_cons (pe_call G_even_shares (hr.mono (by decide)) n_law__even_shares.g D_even_shares.m D_even_shares.F.kp D_even_shares.b .nil (passQ hq) (pa_cons (pvl 3 n_law__web) pa_nil) (hdb := n_law__even_shares.d)) (pa_cons (pe_call G_second_shares (hr.mono (by decide)) n_law__second_shares.g D_second_shares.m D_second_shares.F.kp D_second_shares.b .nil (passQ hq) (pa_cons (pvl 3 n_law__web) pa_nil) (hdb := n_law__second_shares.d)) pa_nil)))) (pss_cons (ps_if (PW.pt (pw_or (pt_not (pt_val (pe_call G_law_fractions (hr.mono (by decide)) n_law__law_fractions.g D_law_fractions.m D_law_fractions.F.kp D_law_fractions.b .nil (passQ hq) (pa_cons (pe_ix ix_list (pvl 7 n_law__found) pe_int (fun _ _ => rfl)) (pa_cons (pvc 1 n_law__many) pa_nil)) (hdb := n_law__law_fractions.d)))) (pw_or (pt_not (pt_val (pe_call G_law_fractions (hr.mono (by decide)) n_law__law_fractions.g D_law_fractions.m D_law_fractions.F.kp D_law_fractions.b .nil (passQ hq) (pa_cons (pe_ix ix_list (pvl 7 n_law__found) pe_int (fun _ _ => rfl)) (pa_cons (pvc 1 n_law__many) pa_nil)) (hdb := n_law__law_fractions.d)))) (pw_or1 (pt_cmpR (op_neD hv) (pvl 7 n_law__found) (pvl 5 n_law__due) (nomark _)))))) (pss_one (ps_ret pe_bl)) pss_nil) (pss_cons (ps_asg (pe_tup (pa_cons pe_int (pa_cons pe_int pa_nil))) (pg_sub (pe_ix ix_list (pvl 7 n_law__found) pe_int (fun _ _ => rfl)) (pe_op op_sub (pvc 1 n_law__many) pe_int) set_list)) (pss_cons (ps_if (pt_cmpR (op_neD hv) (pe_ix ix_list (pvl 7 n_law__found) pe_int (fun _ _ => rfl)) (pe_ix ix_list (pvl 5 n_law__due) pe_int (fun _ _ => rfl)) (nomark _)) (pss_one (ps_ret pe_bl)) pss_nil) (pss_one (ps_expr (pe_bm PySem.F.plainAttrs_list PySem.F.slot_list_append PySem.F.type_list_append mt_append (pe_ix ix_list (pvl 7 n_law__found) pe_int (fun _ _ => rfl)) (pa_cons (pe_tup (pa_cons pe_int (pa_cons pe_int pa_nil))) pa_nil))))))))) (pss_one (ps_ret pe_bl))))))), ?_⟩
    rw [show L2.start ["script", "many", "roads", "web", "tolls", "due", "turn", "found"] [V.ref a] = [some (V.ref a), none, none, none, none, none, none, none] from rfl]
    refine cutS fun N1 h1 => ?_
    walk_at "rd"
    refine ⟨smallE (by simp), fun z nz => ?_⟩
    have s0 := Same.new (.lst [V.int 3, V.int 5, V.int 2, V.int 4, V.int 6, V.int 1, V.int 7, V.int 9, V.int 12, V.int 24]) nz
    refine ⟨a, z, ns, [3, 5, 2, 4, 6, 1, 7, 9, 12, 24], rfl, Same.seq s0 ha, hn, upd_same, by decide, by decide, by decide, fun t l m ps rs H1 _ nt nl s1 et el ro g => ?_⟩
    have m1 := g.m1
    have m24 := g.m24
    refine ⟨t, rfl, _, SqT.of et, rfl, _, _, rfl, _, _, rfl, rfl, h1 _ _ (cutS fun N2 h2 => ?_)⟩
    walk_at "rd"
    refine ⟨_, .inl (SqL.of el), fun lc nlc => ?_⟩
    have s3 := Same.new (.lst (ps.map V.ref)) nlc
    refine mk_web T (c := true) (SqL.of upd_same) (RoadsAt.same s3 ro) g fun x tw H4 hx htw s4 W => ?_
    have s34 := s3.trans s4
    refine h2 _ _ (cutS fun N3 h3 => ?_)
    walk_at "rd"
    refine ⟨l, ps, m, rs, rfl, s34 _ _ el, RoadsAt.same s34 ro, g, fun d H5 nd s5 ta => h3 _ _ (cutS fun N4 h4 => ?_)⟩
    have W5 := W.same s5
    clear s0 s1 s3 s4 s34 s5 W el ro et nlc nt nl nz nd hx htw ha
    walk_at "rd"
    refine ⟨smallE (by simp), fun lb nlb => ?_⟩
    have s6 := Same.new (.lst [V.bl false, V.bl true]) nlb
    have elb : upd H5 lb (.lst [V.bl false, V.bl true]) lb = some (.lst [V.bl false, V.bl true]) := upd_same
    generalize upd H5 lb (.lst [V.bl false, V.bl true]) = H6 at s6 elb ⊢
    refine ⟨⟨_, SqL.of elb⟩, fun pd npd => ?_⟩
    have ta6 := ta.same s6
    have W6 := W5.same s6
    refine comp_any (K := K) (c := true) (xs := [V.bl false, V.bl true]) (fun i ys σ H7 => Same H6 H7 ∧ H7 pd = some (.lst ys) ∧ ∃ (as : List Addr) (v : Option V), ys = as.map V.ref ∧ Paired (fun q b => q ≠ pd ∧ ShAt m rs H7 q b) as ([false, true].take i) ∧ σ = [v, some (V.int m), some (V.ref d)]) ⟨Same.new _ npd, upd_same, [], _, rfl, .nil, rfl⟩ (fun i ys σ H7 _ z => SqL.of (z.1 _ _ elb)) ?_ ?_
    · rintro i y ys σ H7 N hN hy ⟨s7, e7, as, v, rfl, pa, rfl⟩
      obtain ⟨b, hb, rfl⟩ : ∃ b : Bool, [false, true][i]? = some b ∧ y = V.bl b := by
        have il := (List.getElem?_eq_some_iff.mp hy).1
        rcases (show i = 0 ∨ i = 1 by simp at il; omega) with rfl | rfl
        · exact ⟨false, rfl, (Option.some.inj hy).symm⟩
        · exact ⟨true, rfl, (Option.some.inj hy).symm⟩
      have al : as.length ≤ 2 := by have := Paired.length pa; rw [List.length_take] at this; simp at this; omega
      walk_at "rd"
      refine ⟨by omega, by omega, fun pi npi => ?_⟩
      have npd2 : pi ≠ pd := fun e => by rw [e, e7] at npi; cases npi
      refine comp_range (fun j zs σ H8 => Same H7 H8 ∧ H8 pi = some (.lst zs) ∧ ∃ (qs : List Addr) (fs : List (Int × Int)) (v : Option V), zs = qs.map V.ref ∧ qs.length = j ∧ FrsAt H8 qs fs ∧ (∀ f ∈ fs, 0 < f.2 ∧ f.1.gcd f.2 = 1) ∧ (∀ (i : Nat) f, fs[i]? = some f → (f.1 : Rat) / f.2 = shr m rs (if b = true then sep rs else evp rs) i) ∧ σ = [v, some (V.int m), some (V.ref d), some (V.bl b)]) ⟨Same.new _ npi, upd_same, [], [], _, rfl, rfl, .nil, (fun f hf => nomatch hf), (fun i f h => by simp at h), rfl⟩ ?_ ?_
      · rintro j zs σ H8 N8 hN8 hj ⟨s8, e8, qs, fs, v, rfl, qj, hf, fo, fv, rfl⟩
        rw [Int.zero_add]
        have fl : qs.length = fs.length := Paired.length hf
        walk_at "rd"
        refine ⟨d, m, (j : Int), b, rs, rfl, ta6.same (s7.trans s8), g, by omega, by omega, fun f r H9 f0 fg fr nr s9 er => ?_⟩
        have npr : r ≠ pi := fun z => by rw [z, e8] at nr; cases nr
        refine ⟨s9 _ _ e8, small (by rw [List.length_map]; omega), hN8 _ _ _ ⟨(s8.trans s9).put npi _, upd_same, qs ++ [r], fs ++ [f], _, by rw [List.map_append]; rfl, by rw [List.length_append, qj]; rfl, ?_, fun f' hf' => ?_, fun j' f' hj' => ?_, rfl⟩⟩
        · refine pr_snoc (by rw [upd_ne npr]; exact er) (Paired.imp' (fun q f h => ?_) hf)
          rw [upd_ne (ne_of (s9 _ _ h) (s9 _ _ e8) (by intro z; cases z))]
          exact s9 _ _ h
        · rcases List.mem_append.mp hf' with h | h
          · exact fo f' h
          · rw [List.mem_singleton.mp h]; exact ⟨f0, fg⟩
        · by_cases c : j' < fs.length
          · rw [List.getElem?_append_left c] at hj'
            exact fv j' f' hj'
          · have jl := (List.getElem?_eq_some_iff.mp hj').1
            rw [List.length_append, List.length_singleton] at jl
            have : j' = j := by omega
            subst this
            rw [List.getElem?_append_right (by omega), show j' - fs.length = 0 by omega] at hj'
            cases hj'
            exact fr
      · rintro zs σ H8 ⟨s8, e8, qs, fs, v, rfl, qj, hf, fo, fv, rfl⟩
        have fl : qs.length = fs.length := Paired.length hf
        have e78 := s8 _ _ e7
        refine ⟨e78, small (by rw [List.length_map]; omega), hN _ _ _ ⟨(s7.trans s8).put npd _, upd_same, as ++ [pi], _, by rw [List.map_append]; rfl, ?_, rfl⟩⟩
        rw [List.take_succ, hb, Option.toList_some]
        exact pr_snoc ⟨npd2, ShAt.put ⟨qs, fs, e8, hf, ⟨by omega, fo, fv⟩⟩ e78 npd2⟩ (Paired.imp' (fun q b' h => ⟨h.1, (h.2.same s8).put e78 h.1⟩) pa)
    · rintro ys σ H7 ⟨s7, e7, as, v, rfl, pa, rfl⟩
      obtain ⟨r0, r1, rfl, sh0, sh1⟩ : ∃ r0 r1, as = [r0, r1] ∧ ShAt m rs H7 r0 false ∧ ShAt m rs H7 r1 true := by
        match as, pa with
        | [r0, r1], .cons h0 (.cons h1 .nil) => exact ⟨r0, r1, rfl, h0.2, h1.2⟩
      have W7 := W6.same s7
      clear pa ta ta6 W5 W6 s6 elb npd nlb s7
      refine h4 _ _ (cutS fun N5 h5 => ?_)
      obtain ⟨d0, g0, eq0, hg0, S0⟩ := sh0
      obtain ⟨d1, g1, eq1, hg1, S1⟩ := sh1
      walk_at "rd"
      refine ⟨by decide, by decide, ?_⟩
      refine for_rangeH (fun i σ H8 => Same H7 H8 ∧ ∃ v6 v7, σ = [some (V.ref a), some (V.int m), some (V.ref l), some (V.ref x), some (V.ref d), some (V.ref pd), v6, v7]) ⟨Same.refl _, _, _, rfl⟩ ?_ ?_
      · rintro i σ H8 N BB hBB hN hi ⟨s8, v6, v7, rfl⟩
        refine hBB _ _ (cutS fun M1 k1 => ?_)
        walk_at "rd"
        refine ⟨x, tw, m, ps, rs, rfl, W7.same s8, fun le qe fe H9 nle s9 ee hfe fle fbe fve => ?_⟩
        refine ⟨x, tw, m, ps, rs, rfl, W7.same (s8.trans s9), fun ls qs fs H10 nls s10 es hfs fls fbs fvs => ⟨smallE (by simp), fun lf nlf => k1 _ _ (cutS fun M2 k2 => ?_)⟩⟩
        have s11 := Same.new (.lst [V.ref le, V.ref ls]) nlf
        have s8f := s8.trans (s9.trans (s10.trans s11))
        have nels : le ≠ ls := ne_of_none ee nls
        have nlel : le ≠ lf := ne_of_none (s10 _ _ ee) nlf
        have nlsl : ls ≠ lf := ne_of_none es nlf
        have ee := (s10.trans s11) _ _ ee
        have hfe := hfe.same (s10.trans s11)
        have es := s11 _ _ es
        have hfs := hfs.same s11
        have elf : upd H10 lf (.lst [V.ref le, V.ref ls]) lf = some (.lst [V.ref le, V.ref ls]) := upd_same
        have nle7 : H7 le = none := s8.free nle
        have nls7 : H7 ls = none := (s8.trans s9).free nls
        have nlf7 : H7 lf = none := (s8.trans (s9.trans s10)).free nlf
        generalize upd H10 lf (.lst [V.ref le, V.ref ls]) = H11 at s8f ee hfe es hfs elf ⊢
        clear s8 s9 s10 s11 nle nls nlf
        have Se : Shs m rs (evp rs) fe := ⟨fle, fun f h => ⟨(fbe f h).1.1, (fbe f h).2⟩, fve⟩
        have Ss : Shs m rs (sep rs) fs := ⟨fls, fun f h => ⟨(fbs f h).1.1, (fbs f h).2⟩, fvs⟩
        have z0 : fe = g0 := Se.eq S0
        have z1 : fs = g1 := Ss.eq S1
        subst z0 z1
        have m24' : m ≤ 24 := m24
        walk_at "rd"
        refine ixL elf rfl ⟨le, qe, fe, m, rfl, ee, hfe, Se.one, fle, m24, fun H12 s12 => ⟨_, rfl, ?_⟩⟩
        rw [if_neg (by decide)]
        refine ixL (s12 _ _ elf) rfl ⟨ls, qs, fs, m, rfl, s12 _ _ es, hfs.same s12, Ss.one, fls, m24, fun H13 s13 => ⟨_, rfl, ?_⟩⟩
        rw [if_neg (by decide)]
        have s23 := s12.trans s13
        have s813 := s8f.trans s23
        have ee := s23 _ _ ee
        have es := s23 _ _ es
        have hfe := hfe.same s23
        have hfs := hfs.same s23
        have elf := s23 _ _ elf
        have ev : ∀ hs : List (Int × Int), PyData.eqv (.list (hs.map dFr)) (.list (hs.map dFr)) = true := fun hs => by
          simp only [PyData.eqv]
          exact eqv_frs hs
        have dp : ∀ hs : List (Int × Int), (PyData.list (hs.map dFr)).depth ≤ 2 := fun hs => by
          have := depth_frs hs
          simp only [PyData.depth]
          omega
        refine ⟨_, _, .lst (SqL.of elf) (.cons (.lst (SqL.of ee) (deep_frs hfe)) (.cons (.lst (SqL.of es) (deep_frs hfs)) .nil)), .lst (SqL.of (s813 _ _ e7)) (.cons (.lst (SqL.of (s813 _ _ eq0)) (deep_frs (hg0.same s813))) (.cons (.lst (SqL.of (s813 _ _ eq1)) (deep_frs (hg1.same s813))) .nil)), ?_, ?_⟩
        · have h1 := dp fe
          have h2 := dp fs
          simp only [PyData.depth, PyData.depthAll] at h1 h2 ⊢
          omega
        have ev2 : PyData.eqv (.list [.list (fe.map dFr), .list (fs.map dFr)]) (.list [.list (fe.map dFr), .list (fs.map dFr)]) = true := by
          simp only [PyData.eqv, PyData.eqvAll, eqv_frs, Bool.and_self]
        rw [ev2]
        refine ⟨_, rfl, ?_⟩
        rw [if_neg (by decide)]
        refine k2 _ _ (cutS fun M3 k3 => ?_)
        clear ev2 s8f s12 s13 s23
        have qel : (qe.length : Int) = m := by rw [Paired.length hfe]; exact fle
        walk_at "rd"
        refine ⟨smallE (by simp), fun t1 nt1 => ixL (Same.new _ nt1 _ _ elf) rfl ?_⟩
        have u1 := Same.new (.tup [V.int 1, V.int 7]) nt1
        have ee1 := u1 _ _ ee
        refine setR ee1 (by omega) (by rw [List.length_map]; omega) (k3 _ _ (cutS fun M4 k4 => ?_))
        have s14 := (s813.trans u1).put nle7 (.lst ((qe.map V.ref).set (m - 1).toNat (V.ref t1)))
        have elf14 : upd (upd H13 t1 (.tup [V.int 1, V.int 7])) le (.lst ((qe.map V.ref).set (m - 1).toNat (V.ref t1))) lf = some (.lst [V.ref le, V.ref ls]) := by rw [upd_ne nlel.symm]; exact u1 _ _ elf
        have es14 : upd (upd H13 t1 (.tup [V.int 1, V.int 7])) le (.lst ((qe.map V.ref).set (m - 1).toNat (V.ref t1))) ls = some (.lst (qs.map V.ref)) := by rw [upd_ne nels.symm]; exact u1 _ _ es
        have hfs14 : FrsAt (upd (upd H13 t1 (.tup [V.int 1, V.int 7])) le (.lst ((qe.map V.ref).set (m - 1).toNat (V.ref t1)))) qs fs := Paired.imp' (fun q f h => by rw [upd_ne (ne_of (u1 _ _ h) ee1 (by intro z; cases z))]; exact u1 _ _ h) hfs
        generalize upd (upd H13 t1 (.tup [V.int 1, V.int 7])) le (.lst ((qe.map V.ref).set (m - 1).toNat (V.ref t1))) = H14 at s14 elf14 es14 hfs14 ⊢
        clear u1 ee1 nt1 hfe hfs ee es elf s813
        walk_at "rd"
        refine ixL elf14 rfl (ixL (s14 _ _ e7) rfl ?_)
        refine ⟨_, _, .lst (SqL.of es14) (deep_frs hfs14), .lst (SqL.of (s14 _ _ eq1)) (deep_frs (hg1.same s14)), Nat.le_trans (dp fs) (by decide), ?_⟩
        rw [ev]
        refine ⟨_, rfl, ?_⟩
        rw [if_neg (by decide)]
        refine k4 _ _ ?_
        walk_at "rd"
        refine ixL elf14 rfl ⟨tyL es14, smallE (by simp), fun t2 nt2 => ?_⟩
        have u2 := Same.new (.tup [V.int 0, V.int 1]) nt2
        have qsl : (qs.length : Int) = m := by rw [Paired.length hfs14]; exact fls
        exact appR (u2 _ _ es14) (small (by rw [List.length_map]; omega)) (hN _ _ ⟨(s14.trans u2).put nls7 _, _, _, rfl⟩)
      · rintro BB σ H8 hBB ⟨s8, v6, v7, rfl⟩
        refine hBB _ _ (h5 _ _ ?_)
        walk_at "rd"
        exact k _
end
theorem quiet0 : Quiet CX0 := fun _ _ _ _ _ h => h
theorem all_mk {l : PySem.W.OpenLaw} {w : World} {K : PySem.W.Frag} {h : Heap} {mg : Str → Option Value} {fa : Addr} {C_BadWeb : Addr} {C_NoPlace : Addr} {C_NoRoad : Addr} {C_Web : Addr} {xc_NoPlace : Value} {xd_NoPlace : Option Addr} {xk_NoPlace : ClassData} {xs_NoPlace : Array (Option Value)} {qn_NoPlace qq_NoPlace : Str} {qN_NoPlace : Addr} {qb_NoPlace qm_NoPlace : List Value} {qh_NoPlace : Bool} {qs_NoPlace : List Str} {qu_NoPlace : List Value} {qa_NoPlace : Bool} {qc_NoPlace : Option Bool} {qd_NoPlace : Option Addr} {q0_NoPlace q1_NoPlace q2_NoPlace q3_NoPlace q5_NoPlace : Option Value} {xc_NoRoad : Value} {xd_NoRoad : Option Addr} {xk_NoRoad : ClassData} {xs_NoRoad : Array (Option Value)} {qn_NoRoad qq_NoRoad : Str} {qN_NoRoad : Addr} {qb_NoRoad qm_NoRoad : List Value} {qh_NoRoad : Bool} {qs_NoRoad : List Str} {qu_NoRoad : List Value} {qa_NoRoad : Bool} {qc_NoRoad : Option Bool} {qd_NoRoad : Option Addr} {q0_NoRoad q1_NoRoad q2_NoRoad q3_NoRoad q5_NoRoad : Option Value} {f_check_counts : Addr} {od_check_counts an_check_counts : Option Addr} {sl_check_counts : Array (Option Value)} {oc_check_counts kV_check_counts dc_check_counts pm_check_counts cd_check_counts ct_check_counts : Value} {f_is_place : Addr} {od_is_place an_is_place : Option Addr} {sl_is_place : Array (Option Value)} {oc_is_place kV_is_place dc_is_place pm_is_place cd_is_place ct_is_place : Value} {f_check_ends : Addr} {od_check_ends an_check_ends : Option Addr} {sl_check_ends : Array (Option Value)} {oc_check_ends kV_check_ends dc_check_ends pm_check_ends cd_check_ends ct_check_ends : Value} {f_other_ends : Addr} {od_other_ends an_other_ends : Option Addr} {sl_other_ends : Array (Option Value)} {oc_other_ends kV_other_ends dc_other_ends pm_other_ends cd_other_ends ct_other_ends : Value} {f_check_joined : Addr} {od_check_joined an_check_joined : Option Addr} {sl_check_joined : Array (Option Value)} {oc_check_joined kV_check_joined dc_check_joined pm_check_joined cd_check_joined ct_check_joined : Value} {f_check_tolls : Addr} {od_check_tolls an_check_tolls : Option Addr} {sl_check_tolls : Array (Option Value)} {oc_check_tolls kV_check_tolls dc_check_tolls pm_check_tolls cd_check_tolls ct_check_tolls : Value} {f_Web___init__ : Addr} {od_Web___init__ an_Web___init__ : Option Addr} {sl_Web___init__ : Array (Option Value)} {oc_Web___init__ kV_Web___init__ dc_Web___init__ pm_Web___init__ cd_Web___init__ ct_Web___init__ : Value} {f_law_tolls : Addr} {od_law_tolls an_law_tolls : Option Addr} {sl_law_tolls : Array (Option Value)} {oc_law_tolls kV_law_tolls dc_law_tolls pm_law_tolls cd_law_tolls ct_law_tolls : Value} {f_law_part : Addr} {od_law_part an_law_part : Option Addr} {sl_law_part : Array (Option Value)} {oc_law_part kV_law_part dc_law_part pm_law_part cd_law_part ct_law_part : Value} {f_law_whole : Addr} {od_law_whole an_law_whole : Option Addr} {sl_law_whole : Array (Option Value)} {oc_law_whole kV_law_whole dc_law_whole pm_law_whole cd_law_whole ct_law_whole : Value} {f_law_is_fraction : Addr} {od_law_is_fraction an_law_is_fraction : Option Addr} {sl_law_is_fraction : Array (Option Value)} {oc_law_is_fraction kV_law_is_fraction dc_law_is_fraction pm_law_is_fraction cd_law_is_fraction ct_law_is_fraction : Value} {f_law_fractions : Addr} {od_law_fractions an_law_fractions : Option Addr} {sl_law_fractions : Array (Option Value)} {oc_law_fractions kV_law_fractions dc_law_fractions pm_law_fractions cd_law_fractions ct_law_fractions : Value} {f_law_beside : Addr} {od_law_beside an_law_beside : Option Addr} {sl_law_beside : Array (Option Value)} {oc_law_beside kV_law_beside dc_law_beside pm_law_beside cd_law_beside ct_law_beside : Value} {f_law_fraction : Addr} {od_law_fraction an_law_fraction : Option Addr} {sl_law_fraction : Array (Option Value)} {oc_law_fraction kV_law_fraction dc_law_fraction pm_law_fraction cd_law_fraction ct_law_fraction : Value} {f_law_share : Addr} {od_law_share an_law_share : Option Addr} {sl_law_share : Array (Option Value)} {oc_law_share kV_law_share dc_law_share pm_law_share cd_law_share ct_law_share : Value} {f_law_cell : Addr} {od_law_cell an_law_cell : Option Addr} {sl_law_cell : Array (Option Value)} {oc_law_cell kV_law_cell dc_law_cell pm_law_cell cd_law_cell ct_law_cell : Value} {f_law_cells : Addr} {od_law_cells an_law_cells : Option Addr} {sl_law_cells : Array (Option Value)} {oc_law_cells kV_law_cells dc_law_cells pm_law_cells cd_law_cells ct_law_cells : Value} {f_law_stir : Addr} {od_law_stir an_law_stir : Option Addr} {sl_law_stir : Array (Option Value)} {oc_law_stir kV_law_stir dc_law_stir pm_law_stir cd_law_stir ct_law_stir : Value} {f_law_take : Addr} {od_law_take an_law_take : Option Addr} {sl_law_take : Array (Option Value)} {oc_law_take kV_law_take dc_law_take pm_law_take cd_law_take ct_law_take : Value} {f_law_toll : Addr} {od_law_toll an_law_toll : Option Addr} {sl_law_toll : Array (Option Value)} {oc_law_toll kV_law_toll dc_law_toll pm_law_toll cd_law_toll ct_law_toll : Value} {f_law_roads : Addr} {od_law_roads an_law_roads : Option Addr} {sl_law_roads : Array (Option Value)} {oc_law_roads kV_law_roads dc_law_roads pm_law_roads cd_law_roads ct_law_roads : Value} {f_law_web : Addr} {od_law_web an_law_web : Option Addr} {sl_law_web : Array (Option Value)} {oc_law_web kV_law_web dc_law_web pm_law_web cd_law_web ct_law_web : Value} {f_common_divisor : Addr} {od_common_divisor an_common_divisor : Option Addr} {sl_common_divisor : Array (Option Value)} {oc_common_divisor kV_common_divisor dc_common_divisor pm_common_divisor cd_common_divisor ct_common_divisor : Value} {f_fraction : Addr} {od_fraction an_fraction : Option Addr} {sl_fraction : Array (Option Value)} {oc_fraction kV_fraction dc_fraction pm_fraction cd_fraction ct_fraction : Value} {f_sum_up : Addr} {od_sum_up an_sum_up : Option Addr} {sl_sum_up : Array (Option Value)} {oc_sum_up kV_sum_up dc_sum_up pm_sum_up cd_sum_up ct_sum_up : Value} {f_plus : Addr} {od_plus an_plus : Option Addr} {sl_plus : Array (Option Value)} {oc_plus kV_plus dc_plus pm_plus cd_plus ct_plus : Value} {f_minus : Addr} {od_minus an_minus : Option Addr} {sl_minus : Array (Option Value)} {oc_minus kV_minus dc_minus pm_minus cd_minus ct_minus : Value} {f_check_place : Addr} {od_check_place an_check_place : Option Addr} {sl_check_place : Array (Option Value)} {oc_check_place kV_check_place dc_check_place pm_check_place cd_check_place ct_check_place : Value} {f_neighbours : Addr} {od_neighbours an_neighbours : Option Addr} {sl_neighbours : Array (Option Value)} {oc_neighbours kV_neighbours dc_neighbours pm_neighbours cd_neighbours ct_neighbours : Value} {f_road_part : Addr} {od_road_part an_road_part : Option Addr} {sl_road_part : Array (Option Value)} {oc_road_part kV_road_part dc_road_part pm_road_part cd_road_part ct_road_part : Value} {f_toll : Addr} {od_toll an_toll : Option Addr} {sl_toll : Array (Option Value)} {oc_toll kV_toll dc_toll pm_toll cd_toll ct_toll : Value} {f_even_share : Addr} {od_even_share an_even_share : Option Addr} {sl_even_share : Array (Option Value)} {oc_even_share kV_even_share dc_even_share pm_even_share cd_even_share ct_even_share : Value} {f_even_shares : Addr} {od_even_shares an_even_shares : Option Addr} {sl_even_shares : Array (Option Value)} {oc_even_shares kV_even_shares dc_even_shares pm_even_shares cd_even_shares ct_even_shares : Value} {f_second_share : Addr} {od_second_share an_second_share : Option Addr} {sl_second_share : Array (Option Value)} {oc_second_share kV_second_share dc_second_share pm_second_share cd_second_share ct_second_share : Value} {f_second_shares : Addr} {od_second_shares an_second_shares : Option Addr} {sl_second_shares : Array (Option Value)} {oc_second_shares kV_second_shares dc_second_shares pm_second_shares cd_second_shares ct_second_shares : Value} {f_law : Addr} {od_law an_law : Option Addr} {sl_law : Array (Option Value)} {oc_law kV_law dc_law pm_law cd_law ct_law : Value} {t_MOST_PLACES : Tok} {t_LEAST_TOLL : Tok} {t_MOST_TOLL : Tok} {C_ONE : Addr} {t1_ONE t2_ONE : Tok} {n_ONE : Nat} {d_ONE : Option Addr} {s_ONE : Array (Option Value)} (X : K.In h) (G : h.Ns mainGlobals mg) (hfa : mg "law" = some (.ref fa))
    (ac_BadWeb : PySem.W.nsIn K mainGlobals "BadWeb" = some (some (.ref C_BadWeb)))
    (ac_NoPlace : PySem.W.nsIn K mainGlobals "NoPlace" = some (some (.ref C_NoPlace)))
    (ac_NoRoad : PySem.W.nsIn K mainGlobals "NoRoad" = some (some (.ref C_NoRoad)))
    (ac_Web : PySem.W.nsIn K mainGlobals "Web" = some (some (.ref C_Web)))
    (xl_NoPlace : K.lookup C_NoPlace = some ⟨xc_NoPlace, xd_NoPlace, .cls xk_NoPlace, xs_NoPlace⟩)
    (xe_NoPlace : (⟨xc_NoPlace, xd_NoPlace, .cls xk_NoPlace, xs_NoPlace⟩ : Obj) = excClassObj qn_NoPlace qq_NoPlace C_NoPlace qN_NoPlace qb_NoPlace qm_NoPlace qh_NoPlace qs_NoPlace qu_NoPlace qa_NoPlace qc_NoPlace qd_NoPlace q0_NoPlace q1_NoPlace q2_NoPlace q3_NoPlace q5_NoPlace "ValueError.__new__")
    (xf_NoPlace : PySem.W.nsOkIn K qN_NoPlace = true)
    (xj_NoPlace : PySem.W.nsIn K qN_NoPlace "__init__" = some none)
    (xp_NoPlace : PySem.W.tailIn K bmV qm_NoPlace = true)
    (xl_NoRoad : K.lookup C_NoRoad = some ⟨xc_NoRoad, xd_NoRoad, .cls xk_NoRoad, xs_NoRoad⟩)
    (xe_NoRoad : (⟨xc_NoRoad, xd_NoRoad, .cls xk_NoRoad, xs_NoRoad⟩ : Obj) = excClassObj qn_NoRoad qq_NoRoad C_NoRoad qN_NoRoad qb_NoRoad qm_NoRoad qh_NoRoad qs_NoRoad qu_NoRoad qa_NoRoad qc_NoRoad qd_NoRoad q0_NoRoad q1_NoRoad q2_NoRoad q3_NoRoad q5_NoRoad "ValueError.__new__")
    (xf_NoRoad : PySem.W.nsOkIn K qN_NoRoad = true)
    (xj_NoRoad : PySem.W.nsIn K qN_NoRoad "__init__" = some none)
    (xp_NoRoad : PySem.W.tailIn K bmV qm_NoRoad = true)
    (a_check_counts : PySem.W.nsIn K mainGlobals "check_counts" = some (some (.ref f_check_counts)))
    (l_check_counts : K.lookup f_check_counts = some ⟨oc_check_counts, od_check_counts, .func (PySem.W.fnOf "check_counts" "check_counts" (defArgs s_check_counts) (defBody s_check_counts) (defScope s_check_counts) .none kV_check_counts dc_check_counts pm_check_counts an_check_counts cd_check_counts ct_check_counts), sl_check_counts⟩)
    (c_check_counts : PySem.W.codeIn K cd_check_counts "check_counts" = true)
    (k_check_counts : PySem.W.keepIn K (.ref f_check_counts) = true)
    (a_is_place : PySem.W.nsIn K mainGlobals "is_place" = some (some (.ref f_is_place)))
    (l_is_place : K.lookup f_is_place = some ⟨oc_is_place, od_is_place, .func (PySem.W.fnOf "is_place" "is_place" (defArgs s_is_place) (defBody s_is_place) (defScope s_is_place) .none kV_is_place dc_is_place pm_is_place an_is_place cd_is_place ct_is_place), sl_is_place⟩)
    (c_is_place : PySem.W.codeIn K cd_is_place "is_place" = true)
    (k_is_place : PySem.W.keepIn K (.ref f_is_place) = true)
    (a_check_ends : PySem.W.nsIn K mainGlobals "check_ends" = some (some (.ref f_check_ends)))
    (l_check_ends : K.lookup f_check_ends = some ⟨oc_check_ends, od_check_ends, .func (PySem.W.fnOf "check_ends" "check_ends" (defArgs s_check_ends) (defBody s_check_ends) (defScope s_check_ends) .none kV_check_ends dc_check_ends pm_check_ends an_check_ends cd_check_ends ct_check_ends), sl_check_ends⟩)
    (c_check_ends : PySem.W.codeIn K cd_check_ends "check_ends" = true)
    (k_check_ends : PySem.W.keepIn K (.ref f_check_ends) = true)
    (a_other_ends : PySem.W.nsIn K mainGlobals "other_ends" = some (some (.ref f_other_ends)))
    (l_other_ends : K.lookup f_other_ends = some ⟨oc_other_ends, od_other_ends, .func (PySem.W.fnOf "other_ends" "other_ends" (defArgs s_other_ends) (defBody s_other_ends) (defScope s_other_ends) .none kV_other_ends dc_other_ends pm_other_ends an_other_ends cd_other_ends ct_other_ends), sl_other_ends⟩)
    (c_other_ends : PySem.W.codeIn K cd_other_ends "other_ends" = true)
    (k_other_ends : PySem.W.keepIn K (.ref f_other_ends) = true)
    (a_check_joined : PySem.W.nsIn K mainGlobals "check_joined" = some (some (.ref f_check_joined)))
    (l_check_joined : K.lookup f_check_joined = some ⟨oc_check_joined, od_check_joined, .func (PySem.W.fnOf "check_joined" "check_joined" (defArgs s_check_joined) (defBody s_check_joined) (defScope s_check_joined) .none kV_check_joined dc_check_joined pm_check_joined an_check_joined cd_check_joined ct_check_joined), sl_check_joined⟩)
    (c_check_joined : PySem.W.codeIn K cd_check_joined "check_joined" = true)
    (k_check_joined : PySem.W.keepIn K (.ref f_check_joined) = true)
    (a_check_tolls : PySem.W.nsIn K mainGlobals "check_tolls" = some (some (.ref f_check_tolls)))
    (l_check_tolls : K.lookup f_check_tolls = some ⟨oc_check_tolls, od_check_tolls, .func (PySem.W.fnOf "check_tolls" "check_tolls" (defArgs s_check_tolls) (defBody s_check_tolls) (defScope s_check_tolls) .none kV_check_tolls dc_check_tolls pm_check_tolls an_check_tolls cd_check_tolls ct_check_tolls), sl_check_tolls⟩)
    (c_check_tolls : PySem.W.codeIn K cd_check_tolls "check_tolls" = true)
    (k_check_tolls : PySem.W.keepIn K (.ref f_check_tolls) = true)
    (a_Web___init__ : PySem.W.findIn K (.ref C_Web) "__init__" = some (some (.ref f_Web___init__)))
    (i_Web___init__ : PySem.W.isFn K (.ref f_Web___init__) = true)
    (l_Web___init__ : K.lookup f_Web___init__ = some ⟨oc_Web___init__, od_Web___init__, .func (PySem.W.fnOf "__init__" "Web.__init__" (defArgs s_Web___init__) (defBody s_Web___init__) (defScope s_Web___init__) .none kV_Web___init__ dc_Web___init__ pm_Web___init__ an_Web___init__ cd_Web___init__ ct_Web___init__), sl_Web___init__⟩)
    (c_Web___init__ : PySem.W.codeIn K cd_Web___init__ "Web.__init__" = true)
    (k_Web___init__ : PySem.W.keepIn K (.ref f_Web___init__) = true)
    (a_law_tolls : PySem.W.nsIn K mainGlobals "_law_tolls" = some (some (.ref f_law_tolls)))
    (l_law_tolls : K.lookup f_law_tolls = some ⟨oc_law_tolls, od_law_tolls, .func (PySem.W.fnOf "_law_tolls" "_law_tolls" (defArgs s_law_tolls) (defBody s_law_tolls) (defScope s_law_tolls) .none kV_law_tolls dc_law_tolls pm_law_tolls an_law_tolls cd_law_tolls ct_law_tolls), sl_law_tolls⟩)
    (c_law_tolls : PySem.W.codeIn K cd_law_tolls "_law_tolls" = true)
    (k_law_tolls : PySem.W.keepIn K (.ref f_law_tolls) = true)
    (a_law_part : PySem.W.nsIn K mainGlobals "_law_part" = some (some (.ref f_law_part)))
    (l_law_part : K.lookup f_law_part = some ⟨oc_law_part, od_law_part, .func (PySem.W.fnOf "_law_part" "_law_part" (defArgs s_law_part) (defBody s_law_part) (defScope s_law_part) .none kV_law_part dc_law_part pm_law_part an_law_part cd_law_part ct_law_part), sl_law_part⟩)
    (c_law_part : PySem.W.codeIn K cd_law_part "_law_part" = true)
    (k_law_part : PySem.W.keepIn K (.ref f_law_part) = true)
    (a_law_whole : PySem.W.nsIn K mainGlobals "_law_whole" = some (some (.ref f_law_whole)))
    (l_law_whole : K.lookup f_law_whole = some ⟨oc_law_whole, od_law_whole, .func (PySem.W.fnOf "_law_whole" "_law_whole" (defArgs s_law_whole) (defBody s_law_whole) (defScope s_law_whole) .none kV_law_whole dc_law_whole pm_law_whole an_law_whole cd_law_whole ct_law_whole), sl_law_whole⟩)
    (c_law_whole : PySem.W.codeIn K cd_law_whole "_law_whole" = true)
    (k_law_whole : PySem.W.keepIn K (.ref f_law_whole) = true)
    (a_law_is_fraction : PySem.W.nsIn K mainGlobals "_law_is_fraction" = some (some (.ref f_law_is_fraction)))
    (l_law_is_fraction : K.lookup f_law_is_fraction = some ⟨oc_law_is_fraction, od_law_is_fraction, .func (PySem.W.fnOf "_law_is_fraction" "_law_is_fraction" (defArgs s_law_is_fraction) (defBody s_law_is_fraction) (defScope s_law_is_fraction) .none kV_law_is_fraction dc_law_is_fraction pm_law_is_fraction an_law_is_fraction cd_law_is_fraction ct_law_is_fraction), sl_law_is_fraction⟩)
    (c_law_is_fraction : PySem.W.codeIn K cd_law_is_fraction "_law_is_fraction" = true)
    (k_law_is_fraction : PySem.W.keepIn K (.ref f_law_is_fraction) = true)
    (a_law_fractions : PySem.W.nsIn K mainGlobals "_law_fractions" = some (some (.ref f_law_fractions)))
    (l_law_fractions : K.lookup f_law_fractions = some ⟨oc_law_fractions, od_law_fractions, .func (PySem.W.fnOf "_law_fractions" "_law_fractions" (defArgs s_law_fractions) (defBody s_law_fractions) (defScope s_law_fractions) .none kV_law_fractions dc_law_fractions pm_law_fractions an_law_fractions cd_law_fractions ct_law_fractions), sl_law_fractions⟩)
    (c_law_fractions : PySem.W.codeIn K cd_law_fractions "_law_fractions" = true)
    (k_law_fractions : PySem.W.keepIn K (.ref f_law_fractions) = true)
    (a_law_beside : PySem.W.nsIn K mainGlobals "_law_beside" = some (some (.ref f_law_beside)))
    (l_law_beside : K.lookup f_law_beside = some ⟨oc_law_beside, od_law_beside, .func (PySem.W.fnOf "_law_beside" "_law_beside" (defArgs s_law_beside) (defBody s_law_beside) (defScope s_law_beside) .none kV_law_beside dc_law_beside pm_law_beside an_law_beside cd_law_beside ct_law_beside), sl_law_beside⟩)
    (c_law_beside : PySem.W.codeIn K cd_law_beside "_law_beside" = true)
    (k_law_beside : PySem.W.keepIn K (.ref f_law_beside) = true)
    (a_law_fraction : PySem.W.nsIn K mainGlobals "_law_fraction" = some (some (.ref f_law_fraction)))
    (l_law_fraction : K.lookup f_law_fraction = some ⟨oc_law_fraction, od_law_fraction, .func (PySem.W.fnOf "_law_fraction" "_law_fraction" (defArgs s_law_fraction) (defBody s_law_fraction) (defScope s_law_fraction) .none kV_law_fraction dc_law_fraction pm_law_fraction an_law_fraction cd_law_fraction ct_law_fraction), sl_law_fraction⟩)
    (c_law_fraction : PySem.W.codeIn K cd_law_fraction "_law_fraction" = true)
    (k_law_fraction : PySem.W.keepIn K (.ref f_law_fraction) = true)
    (a_law_share : PySem.W.nsIn K mainGlobals "_law_share" = some (some (.ref f_law_share)))
    (l_law_share : K.lookup f_law_share = some ⟨oc_law_share, od_law_share, .func (PySem.W.fnOf "_law_share" "_law_share" (defArgs s_law_share) (defBody s_law_share) (defScope s_law_share) .none kV_law_share dc_law_share pm_law_share an_law_share cd_law_share ct_law_share), sl_law_share⟩)
    (c_law_share : PySem.W.codeIn K cd_law_share "_law_share" = true)
    (k_law_share : PySem.W.keepIn K (.ref f_law_share) = true)
    (a_law_cell : PySem.W.nsIn K mainGlobals "_law_cell" = some (some (.ref f_law_cell)))
    (l_law_cell : K.lookup f_law_cell = some ⟨oc_law_cell, od_law_cell, .func (PySem.W.fnOf "_law_cell" "_law_cell" (defArgs s_law_cell) (defBody s_law_cell) (defScope s_law_cell) .none kV_law_cell dc_law_cell pm_law_cell an_law_cell cd_law_cell ct_law_cell), sl_law_cell⟩)
    (c_law_cell : PySem.W.codeIn K cd_law_cell "_law_cell" = true)
    (k_law_cell : PySem.W.keepIn K (.ref f_law_cell) = true)
    (a_law_cells : PySem.W.nsIn K mainGlobals "_law_cells" = some (some (.ref f_law_cells)))
    (l_law_cells : K.lookup f_law_cells = some ⟨oc_law_cells, od_law_cells, .func (PySem.W.fnOf "_law_cells" "_law_cells" (defArgs s_law_cells) (defBody s_law_cells) (defScope s_law_cells) .none kV_law_cells dc_law_cells pm_law_cells an_law_cells cd_law_cells ct_law_cells), sl_law_cells⟩)
    (c_law_cells : PySem.W.codeIn K cd_law_cells "_law_cells" = true)
    (k_law_cells : PySem.W.keepIn K (.ref f_law_cells) = true)
    (a_law_stir : PySem.W.nsIn K mainGlobals "_law_stir" = some (some (.ref f_law_stir)))
    (l_law_stir : K.lookup f_law_stir = some ⟨oc_law_stir, od_law_stir, .func (PySem.W.fnOf "_law_stir" "_law_stir" (defArgs s_law_stir) (defBody s_law_stir) (defScope s_law_stir) .none kV_law_stir dc_law_stir pm_law_stir an_law_stir cd_law_stir ct_law_stir), sl_law_stir⟩)
    (c_law_stir : PySem.W.codeIn K cd_law_stir "_law_stir" = true)
    (k_law_stir : PySem.W.keepIn K (.ref f_law_stir) = true)
    (a_law_take : PySem.W.nsIn K mainGlobals "_law_take" = some (some (.ref f_law_take)))
    (l_law_take : K.lookup f_law_take = some ⟨oc_law_take, od_law_take, .func (PySem.W.fnOf "_law_take" "_law_take" (defArgs s_law_take) (defBody s_law_take) (defScope s_law_take) .none kV_law_take dc_law_take pm_law_take an_law_take cd_law_take ct_law_take), sl_law_take⟩)
    (c_law_take : PySem.W.codeIn K cd_law_take "_law_take" = true)
    (k_law_take : PySem.W.keepIn K (.ref f_law_take) = true)
    (a_law_toll : PySem.W.nsIn K mainGlobals "_law_toll" = some (some (.ref f_law_toll)))
    (l_law_toll : K.lookup f_law_toll = some ⟨oc_law_toll, od_law_toll, .func (PySem.W.fnOf "_law_toll" "_law_toll" (defArgs s_law_toll) (defBody s_law_toll) (defScope s_law_toll) .none kV_law_toll dc_law_toll pm_law_toll an_law_toll cd_law_toll ct_law_toll), sl_law_toll⟩)
    (c_law_toll : PySem.W.codeIn K cd_law_toll "_law_toll" = true)
    (k_law_toll : PySem.W.keepIn K (.ref f_law_toll) = true)
    (a_law_roads : PySem.W.nsIn K mainGlobals "_law_roads" = some (some (.ref f_law_roads)))
    (l_law_roads : K.lookup f_law_roads = some ⟨oc_law_roads, od_law_roads, .func (PySem.W.fnOf "_law_roads" "_law_roads" (defArgs s_law_roads) (defBody s_law_roads) (defScope s_law_roads) .none kV_law_roads dc_law_roads pm_law_roads an_law_roads cd_law_roads ct_law_roads), sl_law_roads⟩)
    (c_law_roads : PySem.W.codeIn K cd_law_roads "_law_roads" = true)
    (k_law_roads : PySem.W.keepIn K (.ref f_law_roads) = true)
    (a_law_web : PySem.W.nsIn K mainGlobals "_law_web" = some (some (.ref f_law_web)))
    (l_law_web : K.lookup f_law_web = some ⟨oc_law_web, od_law_web, .func (PySem.W.fnOf "_law_web" "_law_web" (defArgs s_law_web) (defBody s_law_web) (defScope s_law_web) .none kV_law_web dc_law_web pm_law_web an_law_web cd_law_web ct_law_web), sl_law_web⟩)
    (c_law_web : PySem.W.codeIn K cd_law_web "_law_web" = true)
    (k_law_web : PySem.W.keepIn K (.ref f_law_web) = true)
    (a_common_divisor : PySem.W.nsIn K mainGlobals "common_divisor" = some (some (.ref f_common_divisor)))
    (l_common_divisor : K.lookup f_common_divisor = some ⟨oc_common_divisor, od_common_divisor, .func (PySem.W.fnOf "common_divisor" "common_divisor" (defArgs s_common_divisor) (defBody s_common_divisor) (defScope s_common_divisor) .none kV_common_divisor dc_common_divisor pm_common_divisor an_common_divisor cd_common_divisor ct_common_divisor), sl_common_divisor⟩)
    (c_common_divisor : PySem.W.codeIn K cd_common_divisor "common_divisor" = true)
    (k_common_divisor : PySem.W.keepIn K (.ref f_common_divisor) = true)
    (a_fraction : PySem.W.nsIn K mainGlobals "fraction" = some (some (.ref f_fraction)))
    (l_fraction : K.lookup f_fraction = some ⟨oc_fraction, od_fraction, .func (PySem.W.fnOf "fraction" "fraction" (defArgs s_fraction) (defBody s_fraction) (defScope s_fraction) .none kV_fraction dc_fraction pm_fraction an_fraction cd_fraction ct_fraction), sl_fraction⟩)
    (c_fraction : PySem.W.codeIn K cd_fraction "fraction" = true)
    (k_fraction : PySem.W.keepIn K (.ref f_fraction) = true)
    (a_sum_up : PySem.W.nsIn K mainGlobals "sum_up" = some (some (.ref f_sum_up)))
    (l_sum_up : K.lookup f_sum_up = some ⟨oc_sum_up, od_sum_up, .func (PySem.W.fnOf "sum_up" "sum_up" (defArgs s_sum_up) (defBody s_sum_up) (defScope s_sum_up) .none kV_sum_up dc_sum_up pm_sum_up an_sum_up cd_sum_up ct_sum_up), sl_sum_up⟩)
    (c_sum_up : PySem.W.codeIn K cd_sum_up "sum_up" = true)
    (k_sum_up : PySem.W.keepIn K (.ref f_sum_up) = true)
    (a_plus : PySem.W.nsIn K mainGlobals "plus" = some (some (.ref f_plus)))
    (l_plus : K.lookup f_plus = some ⟨oc_plus, od_plus, .func (PySem.W.fnOf "plus" "plus" (defArgs s_plus) (defBody s_plus) (defScope s_plus) .none kV_plus dc_plus pm_plus an_plus cd_plus ct_plus), sl_plus⟩)
    (c_plus : PySem.W.codeIn K cd_plus "plus" = true)
    (k_plus : PySem.W.keepIn K (.ref f_plus) = true)
    (a_minus : PySem.W.nsIn K mainGlobals "minus" = some (some (.ref f_minus)))
    (l_minus : K.lookup f_minus = some ⟨oc_minus, od_minus, .func (PySem.W.fnOf "minus" "minus" (defArgs s_minus) (defBody s_minus) (defScope s_minus) .none kV_minus dc_minus pm_minus an_minus cd_minus ct_minus), sl_minus⟩)
    (c_minus : PySem.W.codeIn K cd_minus "minus" = true)
    (k_minus : PySem.W.keepIn K (.ref f_minus) = true)
    (a_check_place : PySem.W.nsIn K mainGlobals "check_place" = some (some (.ref f_check_place)))
    (l_check_place : K.lookup f_check_place = some ⟨oc_check_place, od_check_place, .func (PySem.W.fnOf "check_place" "check_place" (defArgs s_check_place) (defBody s_check_place) (defScope s_check_place) .none kV_check_place dc_check_place pm_check_place an_check_place cd_check_place ct_check_place), sl_check_place⟩)
    (c_check_place : PySem.W.codeIn K cd_check_place "check_place" = true)
    (k_check_place : PySem.W.keepIn K (.ref f_check_place) = true)
    (a_neighbours : PySem.W.nsIn K mainGlobals "neighbours" = some (some (.ref f_neighbours)))
    (l_neighbours : K.lookup f_neighbours = some ⟨oc_neighbours, od_neighbours, .func (PySem.W.fnOf "neighbours" "neighbours" (defArgs s_neighbours) (defBody s_neighbours) (defScope s_neighbours) .none kV_neighbours dc_neighbours pm_neighbours an_neighbours cd_neighbours ct_neighbours), sl_neighbours⟩)
    (c_neighbours : PySem.W.codeIn K cd_neighbours "neighbours" = true)
    (k_neighbours : PySem.W.keepIn K (.ref f_neighbours) = true)
    (a_road_part : PySem.W.nsIn K mainGlobals "road_part" = some (some (.ref f_road_part)))
    (l_road_part : K.lookup f_road_part = some ⟨oc_road_part, od_road_part, .func (PySem.W.fnOf "road_part" "road_part" (defArgs s_road_part) (defBody s_road_part) (defScope s_road_part) .none kV_road_part dc_road_part pm_road_part an_road_part cd_road_part ct_road_part), sl_road_part⟩)
    (c_road_part : PySem.W.codeIn K cd_road_part "road_part" = true)
    (k_road_part : PySem.W.keepIn K (.ref f_road_part) = true)
    (a_toll : PySem.W.nsIn K mainGlobals "toll" = some (some (.ref f_toll)))
    (l_toll : K.lookup f_toll = some ⟨oc_toll, od_toll, .func (PySem.W.fnOf "toll" "toll" (defArgs s_toll) (defBody s_toll) (defScope s_toll) .none kV_toll dc_toll pm_toll an_toll cd_toll ct_toll), sl_toll⟩)
    (c_toll : PySem.W.codeIn K cd_toll "toll" = true)
    (k_toll : PySem.W.keepIn K (.ref f_toll) = true)
    (a_even_share : PySem.W.nsIn K mainGlobals "even_share" = some (some (.ref f_even_share)))
    (l_even_share : K.lookup f_even_share = some ⟨oc_even_share, od_even_share, .func (PySem.W.fnOf "even_share" "even_share" (defArgs s_even_share) (defBody s_even_share) (defScope s_even_share) .none kV_even_share dc_even_share pm_even_share an_even_share cd_even_share ct_even_share), sl_even_share⟩)
    (c_even_share : PySem.W.codeIn K cd_even_share "even_share" = true)
    (k_even_share : PySem.W.keepIn K (.ref f_even_share) = true)
    (a_even_shares : PySem.W.nsIn K mainGlobals "even_shares" = some (some (.ref f_even_shares)))
    (l_even_shares : K.lookup f_even_shares = some ⟨oc_even_shares, od_even_shares, .func (PySem.W.fnOf "even_shares" "even_shares" (defArgs s_even_shares) (defBody s_even_shares) (defScope s_even_shares) .none kV_even_shares dc_even_shares pm_even_shares an_even_shares cd_even_shares ct_even_shares), sl_even_shares⟩)
    (c_even_shares : PySem.W.codeIn K cd_even_shares "even_shares" = true)
    (k_even_shares : PySem.W.keepIn K (.ref f_even_shares) = true)
    (a_second_share : PySem.W.nsIn K mainGlobals "second_share" = some (some (.ref f_second_share)))
    (l_second_share : K.lookup f_second_share = some ⟨oc_second_share, od_second_share, .func (PySem.W.fnOf "second_share" "second_share" (defArgs s_second_share) (defBody s_second_share) (defScope s_second_share) .none kV_second_share dc_second_share pm_second_share an_second_share cd_second_share ct_second_share), sl_second_share⟩)
    (c_second_share : PySem.W.codeIn K cd_second_share "second_share" = true)
    (k_second_share : PySem.W.keepIn K (.ref f_second_share) = true)
    (a_second_shares : PySem.W.nsIn K mainGlobals "second_shares" = some (some (.ref f_second_shares)))
    (l_second_shares : K.lookup f_second_shares = some ⟨oc_second_shares, od_second_shares, .func (PySem.W.fnOf "second_shares" "second_shares" (defArgs s_second_shares) (defBody s_second_shares) (defScope s_second_shares) .none kV_second_shares dc_second_shares pm_second_shares an_second_shares cd_second_shares ct_second_shares), sl_second_shares⟩)
    (c_second_shares : PySem.W.codeIn K cd_second_shares "second_shares" = true)
    (k_second_shares : PySem.W.keepIn K (.ref f_second_shares) = true)
    (a_law : PySem.W.nsIn K mainGlobals "law" = some (some (.ref f_law)))
    (l_law : K.lookup f_law = some ⟨oc_law, od_law, .func (PySem.W.fnOf "law" "law" (defArgs s_law) (defBody s_law) (defScope s_law) .none kV_law dc_law pm_law an_law cd_law ct_law), sl_law⟩)
    (c_law : PySem.W.codeIn K cd_law "law" = true)
    (k_law : PySem.W.keepIn K (.ref f_law) = true)
    (pg_Web : PySem.W.plainGet K C_Web Str.empty = true)
    (hd_Web : PySem.W.hasDictIn K C_Web = true)
    (po_Web : PySem.W.plainOver K C_Web = true)
    (sa_Web : PySem.W.findIn K (.ref C_Web) "__setattr__" = some (some (.builtin "object.__setattr__")))
    (mk_Web : PySem.W.makesIn K C_Web = true)
    (kc_Web : PySem.W.keepIn K (.ref C_Web) = true)
    (nm_Web : PySem.W.findIn K (.ref C_Web) "many" = some none)
    (nr_Web : PySem.W.findIn K (.ref C_Web) "roads" = some none)
    (z_range : PySem.W.nsIn K mainGlobals "range" = some none)
    (z_len : PySem.W.nsIn K mainGlobals "len" = some none)
    (z_isinstance : PySem.W.nsIn K mainGlobals "isinstance" = some none)
    (z_all : PySem.W.nsIn K mainGlobals "all" = some none)
    (z_int : PySem.W.nsIn K mainGlobals "int" = some none)
    (z_bool : PySem.W.nsIn K mainGlobals "bool" = some none)
    (z_tuple : PySem.W.nsIn K mainGlobals "tuple" = some none)
    (z_list : PySem.W.nsIn K mainGlobals "list" = some none)
    (z_sorted : PySem.W.nsIn K mainGlobals "sorted" = some none)
    (z_sum : PySem.W.nsIn K mainGlobals "sum" = some none)
    (z_abs : PySem.W.nsIn K mainGlobals "abs" = some none)
    (v_MOST_PLACES : PySem.W.nsIn K mainGlobals "MOST_PLACES" = some (some (.int 24 t_MOST_PLACES)))
    (v_LEAST_TOLL : PySem.W.nsIn K mainGlobals "LEAST_TOLL" = some (some (.int 2 t_LEAST_TOLL)))
    (v_MOST_TOLL : PySem.W.nsIn K mainGlobals "MOST_TOLL" = some (some (.int 1000000 t_MOST_TOLL)))
    (v_ONE : PySem.W.nsIn K mainGlobals "ONE" = some (some (.ref C_ONE)))
    (vl_ONE : K.lookup C_ONE = some ⟨.type "tuple", d_ONE, .seq #[.int 1 t1_ONE, .int 1 t2_ONE] n_ONE, s_ONE⟩) :
    ∃ fd : FuncData, (∀ (s : Shared) (v : Value), BindsTo s fd ⟨[v], []⟩ [("script", v)]) ∧ ∀ base : Heap, K.In base → base.Ns mainGlobals mg → FnOk l.prog w K mg base (CXe l.prog w) 8 fa fd ["script"] (spLaw K) := by
  have e := hfa.symm.trans (PySem.W.mg_of X G a_law)
  cases e
  let T : Txt K mg := ⟨C_BadWeb, PySem.W.mg_of X G ac_BadWeb, C_NoPlace, PySem.W.mg_of X G ac_NoPlace, C_NoRoad, PySem.W.mg_of X G ac_NoRoad, C_Web, PySem.W.mg_of X G ac_Web, xobj_mk _ _ _ _ _ _ _ _ _ _ _ _ _ _ _ _ xl_NoPlace xe_NoPlace xf_NoPlace xj_NoPlace xp_NoPlace, xobj_mk _ _ _ _ _ _ _ _ _ _ _ _ _ _ _ _ xl_NoRoad xe_NoRoad xf_NoRoad xj_NoRoad xp_NoRoad, PySem.W.mg_none_of X G z_range, PySem.W.mg_none_of X G z_len, PySem.W.mg_none_of X G z_isinstance, PySem.W.mg_none_of X G z_all, PySem.W.mg_none_of X G z_int, PySem.W.mg_none_of X G z_bool, PySem.W.mg_none_of X G z_tuple, PySem.W.mg_none_of X G z_list, PySem.W.mg_none_of X G z_sorted, PySem.W.mg_none_of X G z_sum, PySem.W.mg_none_of X G z_abs, ⟨_, PySem.W.mg_of X G v_MOST_PLACES⟩, ⟨_, PySem.W.mg_of X G v_LEAST_TOLL⟩, ⟨_, PySem.W.mg_of X G v_MOST_TOLL⟩, C_ONE, PySem.W.mg_of X G v_ONE, tupK2 vl_ONE, ⟨pg_Web, hd_Web, po_Web, sa_Web⟩, nm_Web, nr_Web⟩
  have F_check_counts := fun_mk (st := s_check_counts) l_check_counts c_check_counts k_check_counts
  have b_check_counts := F_check_counts.binds (ps := ["many", "roads"]) fun _ _ _ _ _ _ us hl => by obtain ⟨u0, u1, rfl⟩ := us2 hl; rfl
  have D_check_counts : Df K mg "check_counts" s_check_counts ["many", "roads"] f_check_counts _ := ⟨F_check_counts, PySem.W.mg_of X G a_check_counts, b_check_counts⟩
  have F_is_place := fun_mk (st := s_is_place) l_is_place c_is_place k_is_place
  have b_is_place := F_is_place.binds (ps := ["many", "number"]) fun _ _ _ _ _ _ us hl => by obtain ⟨u0, u1, rfl⟩ := us2 hl; rfl
  have D_is_place : Df K mg "is_place" s_is_place ["many", "number"] f_is_place _ := ⟨F_is_place, PySem.W.mg_of X G a_is_place, b_is_place⟩
  have F_check_ends := fun_mk (st := s_check_ends) l_check_ends c_check_ends k_check_ends
  have b_check_ends := F_check_ends.binds (ps := ["many", "road"]) fun _ _ _ _ _ _ us hl => by obtain ⟨u0, u1, rfl⟩ := us2 hl; rfl
  have D_check_ends : Df K mg "check_ends" s_check_ends ["many", "road"] f_check_ends _ := ⟨F_check_ends, PySem.W.mg_of X G a_check_ends, b_check_ends⟩
  have F_other_ends := fun_mk (st := s_other_ends) l_other_ends c_other_ends k_other_ends
  have b_other_ends := F_other_ends.binds (ps := ["roads", "place"]) fun _ _ _ _ _ _ us hl => by obtain ⟨u0, u1, rfl⟩ := us2 hl; rfl
  have D_other_ends : Df K mg "other_ends" s_other_ends ["roads", "place"] f_other_ends _ := ⟨F_other_ends, PySem.W.mg_of X G a_other_ends, b_other_ends⟩
  have F_check_joined := fun_mk (st := s_check_joined) l_check_joined c_check_joined k_check_joined
  have b_check_joined := F_check_joined.binds (ps := ["many", "roads"]) fun _ _ _ _ _ _ us hl => by obtain ⟨u0, u1, rfl⟩ := us2 hl; rfl
  have D_check_joined : Df K mg "check_joined" s_check_joined ["many", "roads"] f_check_joined _ := ⟨F_check_joined, PySem.W.mg_of X G a_check_joined, b_check_joined⟩
  have F_check_tolls := fun_mk (st := s_check_tolls) l_check_tolls c_check_tolls k_check_tolls
  have b_check_tolls := F_check_tolls.binds (ps := ["road"]) fun _ _ _ _ _ _ us hl => by obtain ⟨u0, rfl⟩ := us1 hl; rfl
  have D_check_tolls : Df K mg "check_tolls" s_check_tolls ["road"] f_check_tolls _ := ⟨F_check_tolls, PySem.W.mg_of X G a_check_tolls, b_check_tolls⟩
  have F_Web___init__ := fun_mk (st := s_Web___init__) l_Web___init__ c_Web___init__ k_Web___init__
  have b_Web := F_Web___init__.binds (ps := ["self", "many", "roads"]) fun _ _ _ _ _ _ us hl => by obtain ⟨u0, u1, u2, rfl⟩ := us3 hl; rfl
  have F_law_tolls := fun_mk (st := s_law_tolls) l_law_tolls c_law_tolls k_law_tolls
  have b_law_tolls := F_law_tolls.binds (ps := ["roads"]) fun _ _ _ _ _ _ us hl => by obtain ⟨u0, rfl⟩ := us1 hl; rfl
  have D_law_tolls : Df K mg "_law_tolls" s_law_tolls ["roads"] f_law_tolls _ := ⟨F_law_tolls, PySem.W.mg_of X G a_law_tolls, b_law_tolls⟩
  have F_law_part := fun_mk (st := s_law_part) l_law_part c_law_part k_law_part
  have b_law_part := F_law_part.binds (ps := ["one", "other"]) fun _ _ _ _ _ _ us hl => by obtain ⟨u0, u1, rfl⟩ := us2 hl; rfl
  have D_law_part : Df K mg "_law_part" s_law_part ["one", "other"] f_law_part _ := ⟨F_law_part, PySem.W.mg_of X G a_law_part, b_law_part⟩
  have F_law_whole := fun_mk (st := s_law_whole) l_law_whole c_law_whole k_law_whole
  have b_law_whole := F_law_whole.binds (ps := ["found"]) fun _ _ _ _ _ _ us hl => by obtain ⟨u0, rfl⟩ := us1 hl; rfl
  have D_law_whole : Df K mg "_law_whole" s_law_whole ["found"] f_law_whole _ := ⟨F_law_whole, PySem.W.mg_of X G a_law_whole, b_law_whole⟩
  have F_law_is_fraction := fun_mk (st := s_law_is_fraction) l_law_is_fraction c_law_is_fraction k_law_is_fraction
  have b_law_is_fraction := F_law_is_fraction.binds (ps := ["found"]) fun _ _ _ _ _ _ us hl => by obtain ⟨u0, rfl⟩ := us1 hl; rfl
  have D_law_is_fraction : Df K mg "_law_is_fraction" s_law_is_fraction ["found"] f_law_is_fraction _ := ⟨F_law_is_fraction, PySem.W.mg_of X G a_law_is_fraction, b_law_is_fraction⟩
  have F_law_fractions := fun_mk (st := s_law_fractions) l_law_fractions c_law_fractions k_law_fractions
  have b_law_fractions := F_law_fractions.binds (ps := ["found", "many"]) fun _ _ _ _ _ _ us hl => by obtain ⟨u0, u1, rfl⟩ := us2 hl; rfl
  have D_law_fractions : Df K mg "_law_fractions" s_law_fractions ["found", "many"] f_law_fractions _ := ⟨F_law_fractions, PySem.W.mg_of X G a_law_fractions, b_law_fractions⟩
  have F_law_beside := fun_mk (st := s_law_beside) l_law_beside c_law_beside k_law_beside
  have b_law_beside := F_law_beside.binds (ps := ["many", "tolls", "place"]) fun _ _ _ _ _ _ us hl => by obtain ⟨u0, u1, u2, rfl⟩ := us3 hl; rfl
  have D_law_beside : Df K mg "_law_beside" s_law_beside ["many", "tolls", "place"] f_law_beside _ := ⟨F_law_beside, PySem.W.mg_of X G a_law_beside, b_law_beside⟩
  have F_law_fraction := fun_mk (st := s_law_fraction) l_law_fraction c_law_fraction k_law_fraction
  have b_law_fraction := F_law_fraction.binds (ps := ["top", "bottom"]) fun _ _ _ _ _ _ us hl => by obtain ⟨u0, u1, rfl⟩ := us2 hl; rfl
  have D_law_fraction : Df K mg "_law_fraction" s_law_fraction ["top", "bottom"] f_law_fraction _ := ⟨F_law_fraction, PySem.W.mg_of X G a_law_fraction, b_law_fraction⟩
  have F_law_share := fun_mk (st := s_law_share) l_law_share c_law_share k_law_share
  have b_law_share := F_law_share.binds (ps := ["many", "tolls", "place", "second"]) fun _ _ _ _ _ _ us hl => by obtain ⟨u0, u1, u2, u3, rfl⟩ := us4 hl; rfl
  have D_law_share : Df K mg "_law_share" s_law_share ["many", "tolls", "place", "second"] f_law_share _ := ⟨F_law_share, PySem.W.mg_of X G a_law_share, b_law_share⟩
  have F_law_cell := fun_mk (st := s_law_cell) l_law_cell c_law_cell k_law_cell
  have b_law_cell := F_law_cell.binds (ps := ["script", "k"]) fun _ _ _ _ _ _ us hl => by obtain ⟨u0, u1, rfl⟩ := us2 hl; rfl
  have D_law_cell : Df K mg "_law_cell" s_law_cell ["script", "k"] f_law_cell _ := ⟨F_law_cell, PySem.W.mg_of X G a_law_cell, b_law_cell⟩
  have F_law_cells := fun_mk (st := s_law_cells) l_law_cells c_law_cells k_law_cells
  have b_law_cells := F_law_cells.binds (ps := ["script", "many"]) fun _ _ _ _ _ _ us hl => by obtain ⟨u0, u1, rfl⟩ := us2 hl; rfl
  have D_law_cells : Df K mg "_law_cells" s_law_cells ["script", "many"] f_law_cells _ := ⟨F_law_cells, PySem.W.mg_of X G a_law_cells, b_law_cells⟩
  have F_law_stir := fun_mk (st := s_law_stir) l_law_stir c_law_stir k_law_stir
  have b_law_stir := F_law_stir.binds (ps := ["cell", "k"]) fun _ _ _ _ _ _ us hl => by obtain ⟨u0, u1, rfl⟩ := us2 hl; rfl
  have D_law_stir : Df K mg "_law_stir" s_law_stir ["cell", "k"] f_law_stir _ := ⟨F_law_stir, PySem.W.mg_of X G a_law_stir, b_law_stir⟩
  have F_law_take := fun_mk (st := s_law_take) l_law_take c_law_take k_law_take
  have b_law_take := F_law_take.binds (ps := ["pot", "n"]) fun _ _ _ _ _ _ us hl => by obtain ⟨u0, u1, rfl⟩ := us2 hl; rfl
  have D_law_take : Df K mg "_law_take" s_law_take ["pot", "n"] f_law_take _ := ⟨F_law_take, PySem.W.mg_of X G a_law_take, b_law_take⟩
  have F_law_toll := fun_mk (st := s_law_toll) l_law_toll c_law_toll k_law_toll
  have b_law_toll := F_law_toll.binds (ps := ["pot", "small"]) fun _ _ _ _ _ _ us hl => by obtain ⟨u0, u1, rfl⟩ := us2 hl; rfl
  have D_law_toll : Df K mg "_law_toll" s_law_toll ["pot", "small"] f_law_toll _ := ⟨F_law_toll, PySem.W.mg_of X G a_law_toll, b_law_toll⟩
  have F_law_roads := fun_mk (st := s_law_roads) l_law_roads c_law_roads k_law_roads
  have b_law_roads := F_law_roads.binds (ps := ["cells", "first"]) fun _ _ _ _ _ _ us hl => by obtain ⟨u0, u1, rfl⟩ := us2 hl; rfl
  have D_law_roads : Df K mg "_law_roads" s_law_roads ["cells", "first"] f_law_roads _ := ⟨F_law_roads, PySem.W.mg_of X G a_law_roads, b_law_roads⟩
  have F_law_web := fun_mk (st := s_law_web) l_law_web c_law_web k_law_web
  have b_law_web := F_law_web.binds (ps := ["script", "sizes"]) fun _ _ _ _ _ _ us hl => by obtain ⟨u0, u1, rfl⟩ := us2 hl; rfl
  have D_law_web : Df K mg "_law_web" s_law_web ["script", "sizes"] f_law_web _ := ⟨F_law_web, PySem.W.mg_of X G a_law_web, b_law_web⟩
  have F_common_divisor := fun_mk (st := s_common_divisor) l_common_divisor c_common_divisor k_common_divisor
  have b_common_divisor := F_common_divisor.binds (ps := ["one", "two"]) fun _ _ _ _ _ _ us hl => by obtain ⟨u0, u1, rfl⟩ := us2 hl; rfl
  have D_common_divisor : Df K mg "common_divisor" s_common_divisor ["one", "two"] f_common_divisor _ := ⟨F_common_divisor, PySem.W.mg_of X G a_common_divisor, b_common_divisor⟩
  have F_fraction := fun_mk (st := s_fraction) l_fraction c_fraction k_fraction
  have b_fraction := F_fraction.binds (ps := ["top", "bottom"]) fun _ _ _ _ _ _ us hl => by obtain ⟨u0, u1, rfl⟩ := us2 hl; rfl
  have D_fraction : Df K mg "fraction" s_fraction ["top", "bottom"] f_fraction _ := ⟨F_fraction, PySem.W.mg_of X G a_fraction, b_fraction⟩
  have F_sum_up := fun_mk (st := s_sum_up) l_sum_up c_sum_up k_sum_up
  have b_sum_up := F_sum_up.binds (ps := ["some"]) fun _ _ _ _ _ _ us hl => by obtain ⟨u0, rfl⟩ := us1 hl; rfl
  have D_sum_up : Df K mg "sum_up" s_sum_up ["some"] f_sum_up _ := ⟨F_sum_up, PySem.W.mg_of X G a_sum_up, b_sum_up⟩
  have F_plus := fun_mk (st := s_plus) l_plus c_plus k_plus
  have b_plus := F_plus.binds (ps := ["one", "two"]) fun _ _ _ _ _ _ us hl => by obtain ⟨u0, u1, rfl⟩ := us2 hl; rfl
  have D_plus : Df K mg "plus" s_plus ["one", "two"] f_plus _ := ⟨F_plus, PySem.W.mg_of X G a_plus, b_plus⟩
  have F_minus := fun_mk (st := s_minus) l_minus c_minus k_minus
  have b_minus := F_minus.binds (ps := ["one", "two"]) fun _ _ _ _ _ _ us hl => by obtain ⟨u0, u1, rfl⟩ := us2 hl; rfl
  have D_minus : Df K mg "minus" s_minus ["one", "two"] f_minus _ := ⟨F_minus, PySem.W.mg_of X G a_minus, b_minus⟩
  have F_check_place := fun_mk (st := s_check_place) l_check_place c_check_place k_check_place
  have b_check_place := F_check_place.binds (ps := ["web", "number"]) fun _ _ _ _ _ _ us hl => by obtain ⟨u0, u1, rfl⟩ := us2 hl; rfl
  have D_check_place : Df K mg "check_place" s_check_place ["web", "number"] f_check_place _ := ⟨F_check_place, PySem.W.mg_of X G a_check_place, b_check_place⟩
  have F_neighbours := fun_mk (st := s_neighbours) l_neighbours c_neighbours k_neighbours
  have b_neighbours := F_neighbours.binds (ps := ["web", "a"]) fun _ _ _ _ _ _ us hl => by obtain ⟨u0, u1, rfl⟩ := us2 hl; rfl
  have D_neighbours : Df K mg "neighbours" s_neighbours ["web", "a"] f_neighbours _ := ⟨F_neighbours, PySem.W.mg_of X G a_neighbours, b_neighbours⟩
  have F_road_part := fun_mk (st := s_road_part) l_road_part c_road_part k_road_part
  have b_road_part := F_road_part.binds (ps := ["one", "other"]) fun _ _ _ _ _ _ us hl => by obtain ⟨u0, u1, rfl⟩ := us2 hl; rfl
  have D_road_part : Df K mg "road_part" s_road_part ["one", "other"] f_road_part _ := ⟨F_road_part, PySem.W.mg_of X G a_road_part, b_road_part⟩
  have F_toll := fun_mk (st := s_toll) l_toll c_toll k_toll
  have b_toll := F_toll.binds (ps := ["web", "a", "b"]) fun _ _ _ _ _ _ us hl => by obtain ⟨u0, u1, u2, rfl⟩ := us3 hl; rfl
  have D_toll : Df K mg "toll" s_toll ["web", "a", "b"] f_toll _ := ⟨F_toll, PySem.W.mg_of X G a_toll, b_toll⟩
  have F_even_share := fun_mk (st := s_even_share) l_even_share c_even_share k_even_share
  have b_even_share := F_even_share.binds (ps := ["web", "place"]) fun _ _ _ _ _ _ us hl => by obtain ⟨u0, u1, rfl⟩ := us2 hl; rfl
  have D_even_share : Df K mg "even_share" s_even_share ["web", "place"] f_even_share _ := ⟨F_even_share, PySem.W.mg_of X G a_even_share, b_even_share⟩
  have F_even_shares := fun_mk (st := s_even_shares) l_even_shares c_even_shares k_even_shares
  have b_even_shares := F_even_shares.binds (ps := ["web"]) fun _ _ _ _ _ _ us hl => by obtain ⟨u0, rfl⟩ := us1 hl; rfl
  have D_even_shares : Df K mg "even_shares" s_even_shares ["web"] f_even_shares _ := ⟨F_even_shares, PySem.W.mg_of X G a_even_shares, b_even_shares⟩
  have F_second_share := fun_mk (st := s_second_share) l_second_share c_second_share k_second_share
  have b_second_share := F_second_share.binds (ps := ["web", "place"]) fun _ _ _ _ _ _ us hl => by obtain ⟨u0, u1, rfl⟩ := us2 hl; rfl
  have D_second_share : Df K mg "second_share" s_second_share ["web", "place"] f_second_share _ := ⟨F_second_share, PySem.W.mg_of X G a_second_share, b_second_share⟩
  have F_second_shares := fun_mk (st := s_second_shares) l_second_shares c_second_shares k_second_shares
  have b_second_shares := F_second_shares.binds (ps := ["web"]) fun _ _ _ _ _ _ us hl => by obtain ⟨u0, rfl⟩ := us1 hl; rfl
  have D_second_shares : Df K mg "second_shares" s_second_shares ["web"] f_second_shares _ := ⟨F_second_shares, PySem.W.mg_of X G a_second_shares, b_second_shares⟩
  have F_law := fun_mk (st := s_law) l_law c_law k_law
  have b_law := F_law.binds (ps := ["script"]) fun _ _ _ _ _ _ us hl => by obtain ⟨u0, rfl⟩ := us1 hl; rfl
  have D_law : Df K mg "law" s_law ["script"] fa _ := ⟨F_law, PySem.W.mg_of X G a_law, b_law⟩
  refine ⟨PySem.W.fnOf "law" "law" (defArgs s_law) (defBody s_law) (defScope s_law) .none kV_law dc_law pm_law an_law cd_law ct_law, fun s v => .of_eq rfl, fun base _ _ => ?_⟩
  have M_Web : Mk K T.Web f_Web___init__ := ⟨mk_Web, a_Web___init__, i_Web___init__, kc_Web⟩
  have G_check_counts := ok_check_counts (P := l.prog) (w := w) (base := base) T quietE D_check_counts
  have G_is_place := ok_is_place (P := l.prog) (w := w) (base := base) T quietE D_is_place
  have G_check_ends := ok_check_ends (P := l.prog) (w := w) (base := base) T quietE D_check_ends D_is_place G_is_place
  have G_other_ends := ok_other_ends (P := l.prog) (w := w) (base := base) T quietE D_other_ends
  have G_check_joined := ok_check_joined (P := l.prog) (w := w) (base := base) T quietE D_check_joined D_other_ends G_other_ends
  have G_check_tolls := ok_check_tolls (P := l.prog) (w := w) (base := base) T quietE D_check_tolls
  have G_Web_init := ok_Web___init__ (P := l.prog) (w := w) (base := base) T quietE F_Web___init__ D_check_counts G_check_counts D_check_ends G_check_ends D_check_joined G_check_joined D_check_tolls G_check_tolls
  have G_law_tolls := ok_law_tolls (P := l.prog) (w := w) (base := base) T quietE D_law_tolls
  have G_law_part := ok_law_part (P := l.prog) (w := w) (base := base) T quietE D_law_part
  have G_law_whole := ok_law_whole (P := l.prog) (w := w) (base := base) T quietE D_law_whole
  have G_law_is_fraction := ok_law_is_fraction (P := l.prog) (w := w) (base := base) T quietE D_law_is_fraction D_law_part G_law_part D_law_whole G_law_whole
  have G_law_fractions := ok_law_fractions (P := l.prog) (w := w) (base := base) T quietE D_law_fractions D_law_is_fraction G_law_is_fraction
  have G_law_beside := ok_law_beside (P := l.prog) (w := w) (base := base) T quietE D_law_beside
  have G_law_fraction := ok_law_fraction (P := l.prog) (w := w) (base := base) T quietE D_law_fraction D_law_part G_law_part
  have G_law_share := ok_law_share (P := l.prog) (w := w) (base := base) T quietE D_law_share D_law_beside G_law_beside D_law_fraction G_law_fraction
  have G_law_cell := ok_law_cell (P := l.prog) (w := w) (base := base) T quietE D_law_cell
  have G_law_cells := ok_law_cells (P := l.prog) (w := w) (base := base) T quietE D_law_cells
  have G_law_stir := ok_law_stir (P := l.prog) (w := w) (base := base) T quietE D_law_stir
  have G_law_take := ok_law_take (P := l.prog) (w := w) (base := base) T quietE D_law_take
  have G_law_toll := ok_law_toll (P := l.prog) (w := w) (base := base) T quietE D_law_toll D_law_take G_law_take
  have G_law_roads := ok_law_roads (P := l.prog) (w := w) (base := base) T quietE D_law_roads D_law_stir G_law_stir D_law_take G_law_take D_law_toll G_law_toll
  have G_law_web := ok_law_web (P := l.prog) (w := w) (base := base) T quietE D_law_web D_law_cell G_law_cell D_law_cells G_law_cells D_law_roads G_law_roads
  have G_common_divisor := ok_common_divisor (P := l.prog) (w := w) (base := base) T quietE D_common_divisor
  have G_fraction := ok_fraction (P := l.prog) (w := w) (base := base) T quietE D_fraction D_common_divisor G_common_divisor
  have G_sum_up := ok_sum_up (P := l.prog) (w := w) (base := base) T quietE D_sum_up D_common_divisor G_common_divisor D_fraction G_fraction
  have G_plus := ok_plus (P := l.prog) (w := w) (base := base) T quietE D_plus D_sum_up G_sum_up
  have G_minus := ok_minus (P := l.prog) (w := w) (base := base) T quietE D_minus D_plus G_plus
  have G_check_place := ok_check_place (P := l.prog) (w := w) (base := base) T quietE D_check_place D_is_place G_is_place
  have G_neighbours := ok_neighbours (P := l.prog) (w := w) (base := base) T quietE D_neighbours D_check_place G_check_place D_other_ends G_other_ends
  have G_road_part := ok_road_part (P := l.prog) (w := w) (base := base) T quietE D_road_part D_fraction G_fraction
  have G_toll := ok_toll (P := l.prog) (w := w) (base := base) T quietE D_toll D_check_place G_check_place
  have G_even_share := ok_even_share (P := l.prog) (w := w) (base := base) T quietE D_even_share D_minus G_minus D_neighbours G_neighbours D_road_part G_road_part D_sum_up G_sum_up D_toll G_toll
  have G_even_shares := ok_even_shares (P := l.prog) (w := w) (base := base) T quietE D_even_shares D_even_share G_even_share
  have G_second_share := ok_second_share (P := l.prog) (w := w) (base := base) T quietE D_second_share D_minus G_minus D_neighbours G_neighbours D_road_part G_road_part D_sum_up G_sum_up D_toll G_toll
  have G_second_shares := ok_second_shares (P := l.prog) (w := w) (base := base) T quietE D_second_shares D_second_share G_second_share
  have G_law := ok_law (P := l.prog) (w := w) (base := base) T quietE D_law F_Web___init__ b_Web M_Web G_Web_init D_law_fractions G_law_fractions D_law_share G_law_share D_law_tolls G_law_tolls D_law_web G_law_web D_even_shares G_even_shares D_second_shares G_second_shares
  exact G_law
theorem walk {l : PySem.W.OpenLaw} {q : Program} {loose : List Str} {XP : (Str → Option Value) → Heap → Prop} {YP : World → Heap → Prop} {d : DefRec} {K : Params → PySem.W.Frag} (hn : l.most = some 63) (hdf : d.params.defaults = [])
    (hY : ∀ (w : World) (h : Heap), YP w h → (K w.params).In h)
    (F : ∀ (w : World) (mg : Str → Option Value) (fa : Addr) (h : Heap), (K w.params).In h → h.Ns mainGlobals mg → mg d.name = some (.ref fa) →
      ∃ fd : FuncData, (∀ (s : Shared) (u : Value), BindsTo s fd ⟨[u], []⟩ [("script", u)]) ∧ ∀ base : Heap, (K w.params).In base → base.Ns mainGlobals mg → FnOk l.prog w (K w.params) mg base (CXe l.prog w) 8 fa fd ["script"] (spLaw (K w.params))) :
    PySem.W.WalkO q loose XP YP l.row.toRowW d [] (fun f vs => PySem.call f vs) :=
  L2.walk_of (n := 63) (k := 8) (x := "script") (CX := fun w => (CXe l.prog w)) (sp := fun w => spLaw (K w.params)) hn (by decide) hdf ⟨rfl, by decide, by decide⟩ hY F (fun _ _ a ns hl _ hS => ⟨a, ns, rfl, hS, hl, fun _ => rfl⟩) fun _ _ _ _ _ z => quietE _ _ _ _ _ z
end Pk
open PySem PySem.W PyProof.Rows
set_option maxRecDepth 100000 in
set_option maxHeartbeats 0 in
theorem PySem.Challenge.cw_pebbletoll_k52_even_and_second_shares_holds : PySem.Challenge.rw_pebbletoll_k52_even_and_second_shares.Holds := by
  w_on; o_law; k_head; (case hw => w_witness2)
  k_fill
  refine Pk.walk (l := PySem.Challenge.rw_pebbletoll_k52_even_and_second_shares) rfl rfl (fun w h Y => PySem.W.kIn_of Y) ?F
  case F =>
    intro w mg fa h KX G hmg
    refine' Pk.all_mk KX G hmg ?ac_BadWeb ?ac_NoPlace ?ac_NoRoad ?ac_Web ?xl_NoPlace ?xe_NoPlace ?xf_NoPlace ?xj_NoPlace ?xp_NoPlace ?xl_NoRoad ?xe_NoRoad ?xf_NoRoad ?xj_NoRoad ?xp_NoRoad ?a_check_counts ?l_check_counts ?c_check_counts ?k_check_counts ?a_is_place ?l_is_place ?c_is_place ?k_is_place ?a_check_ends ?l_check_ends ?c_check_ends ?k_check_ends ?a_other_ends ?l_other_ends ?c_other_ends ?k_other_ends ?a_check_joined ?l_check_joined ?c_check_joined ?k_check_joined ?a_check_tolls ?l_check_tolls ?c_check_tolls ?k_check_tolls ?a_Web___init__ ?i_Web___init__ ?l_Web___init__ ?c_Web___init__ ?k_Web___init__ ?a_law_tolls ?l_law_tolls ?c_law_tolls ?k_law_tolls ?a_law_part ?l_law_part ?c_law_part ?k_law_part ?a_law_whole ?l_law_whole ?c_law_whole ?k_law_whole ?a_law_is_fraction ?l_law_is_fraction ?c_law_is_fraction ?k_law_is_fraction ?a_law_fractions ?l_law_fractions ?c_law_fractions ?k_law_fractions ?a_law_beside ?l_law_beside ?c_law_beside ?k_law_beside ?a_law_fraction ?l_law_fraction ?c_law_fraction ?k_law_fraction ?a_law_share ?l_law_share ?c_law_share ?k_law_share ?a_law_cell ?l_law_cell ?c_law_cell ?k_law_cell ?a_law_cells ?l_law_cells ?c_law_cells ?k_law_cells ?a_law_stir ?l_law_stir ?c_law_stir ?k_law_stir ?a_law_take ?l_law_take ?c_law_take ?k_law_take ?a_law_toll ?l_law_toll ?c_law_toll ?k_law_toll ?a_law_roads ?l_law_roads ?c_law_roads ?k_law_roads ?a_law_web ?l_law_web ?c_law_web ?k_law_web ?a_common_divisor ?l_common_divisor ?c_common_divisor ?k_common_divisor ?a_fraction ?l_fraction ?c_fraction ?k_fraction ?a_sum_up ?l_sum_up ?c_sum_up ?k_sum_up ?a_plus ?l_plus ?c_plus ?k_plus ?a_minus ?l_minus ?c_minus ?k_minus ?a_check_place ?l_check_place ?c_check_place ?k_check_place ?a_neighbours ?l_neighbours ?c_neighbours ?k_neighbours ?a_road_part ?l_road_part ?c_road_part ?k_road_part ?a_toll ?l_toll ?c_toll ?k_toll ?a_even_share ?l_even_share ?c_even_share ?k_even_share ?a_even_shares ?l_even_shares ?c_even_shares ?k_even_shares ?a_second_share ?l_second_share ?c_second_share ?k_second_share ?a_second_shares ?l_second_shares ?c_second_shares ?k_second_shares ?a_law ?l_law ?c_law ?k_law ?pg_Web ?hd_Web ?po_Web ?sa_Web ?mk_Web ?kc_Web ?nm_Web ?nr_Web ?z_range ?z_len ?z_isinstance ?z_all ?z_int ?z_bool ?z_tuple ?z_list ?z_sorted ?z_sum ?z_abs ?v_MOST_PLACES ?v_LEAST_TOLL ?v_MOST_TOLL ?v_ONE ?vl_ONE
    (case ac_BadWeb => k_is)
    (case ac_NoPlace => k_is)
    (case ac_NoRoad => k_is)
    (case ac_Web => k_is)
    (case xl_NoPlace => k_is)
    (case xe_NoPlace => rfl)
    (case xf_NoPlace => kernel_rfl)
    (case xj_NoPlace => k_is)
    (case xp_NoPlace => kernel_rfl)
    (case xl_NoRoad => k_is)
    (case xe_NoRoad => rfl)
    (case xf_NoRoad => kernel_rfl)
    (case xj_NoRoad => k_is)
    (case xp_NoRoad => kernel_rfl)
    (case a_check_counts => k_is)
    (case l_check_counts => k_is)
    (case c_check_counts => k_is)
    (case k_check_counts => k_is)
    (case a_is_place => k_is)
    (case l_is_place => k_is)
    (case c_is_place => k_is)
    (case k_is_place => k_is)
    (case a_check_ends => k_is)
    (case l_check_ends => k_is)
    (case c_check_ends => k_is)
    (case k_check_ends => k_is)
    (case a_other_ends => k_is)
    (case l_other_ends => k_is)
    (case c_other_ends => k_is)
    (case k_other_ends => k_is)
    (case a_check_joined => k_is)
    (case l_check_joined => k_is)
    (case c_check_joined => k_is)
    (case k_check_joined => k_is)
    (case a_check_tolls => k_is)
    (case l_check_tolls => k_is)
    (case c_check_tolls => k_is)
    (case k_check_tolls => k_is)
    (case a_Web___init__ => k_is)
    (case i_Web___init__ => k_is)
    (case l_Web___init__ => k_is)
    (case c_Web___init__ => k_is)
    (case k_Web___init__ => k_is)
    (case a_law_tolls => k_is)
    (case l_law_tolls => k_is)
    (case c_law_tolls => k_is)
    (case k_law_tolls => k_is)
    (case a_law_part => k_is)
    (case l_law_part => k_is)
    (case c_law_part => k_is)
    (case k_law_part => k_is)
    (case a_law_whole => k_is)
    (case l_law_whole => k_is)
    (case c_law_whole => k_is)
    (case k_law_whole => k_is)
    (case a_law_is_fraction => k_is)
    (case l_law_is_fraction => k_is)
    (case c_law_is_fraction => k_is)
    (case k_law_is_fraction => k_is)
    (case a_law_fractions => k_is)
    (case l_law_fractions => k_is)
    (case c_law_fractions => k_is)
    (case k_law_fractions => k_is)
    (case a_law_beside => k_is)
    (case l_law_beside => k_is)
    (case c_law_beside => k_is)
    (case k_law_beside => k_is)
    (case a_law_fraction => k_is)
    (case l_law_fraction => k_is)
    (case c_law_fraction => k_is)
    (case k_law_fraction => k_is)
    (case a_law_share => k_is)
    (case l_law_share => k_is)
    (case c_law_share => k_is)
    (case k_law_share => k_is)
    (case a_law_cell => k_is)
    (case l_law_cell => k_is)
    (case c_law_cell => k_is)
    (case k_law_cell => k_is)
    (case a_law_cells => k_is)
    (case l_law_cells => k_is)
    (case c_law_cells => k_is)
    (case k_law_cells => k_is)
    (case a_law_stir => k_is)
    (case l_law_stir => k_is)
    (case c_law_stir => k_is)
    (case k_law_stir => k_is)
    (case a_law_take => k_is)
    (case l_law_take => k_is)
    (case c_law_take => k_is)
    (case k_law_take => k_is)
    (case a_law_toll => k_is)
    (case l_law_toll => k_is)
    (case c_law_toll => k_is)
    (case k_law_toll => k_is)
    (case a_law_roads => k_is)
    (case l_law_roads => k_is)
    (case c_law_roads => k_is)
    (case k_law_roads => k_is)
    (case a_law_web => k_is)
    (case l_law_web => k_is)
    (case c_law_web => k_is)
    (case k_law_web => k_is)
    (case a_common_divisor => k_is)
    (case l_common_divisor => k_is)
    (case c_common_divisor => k_is)
    (case k_common_divisor => k_is)
    (case a_fraction => k_is)
    (case l_fraction => k_is)
    (case c_fraction => k_is)
    (case k_fraction => k_is)
    (case a_sum_up => k_is)
    (case l_sum_up => k_is)
    (case c_sum_up => k_is)
    (case k_sum_up => k_is)
    (case a_plus => k_is)
    (case l_plus => k_is)
    (case c_plus => k_is)
    (case k_plus => k_is)
    (case a_minus => k_is)
    (case l_minus => k_is)
    (case c_minus => k_is)
    (case k_minus => k_is)
    (case a_check_place => k_is)
    (case l_check_place => k_is)
    (case c_check_place => k_is)
    (case k_check_place => k_is)
    (case a_neighbours => k_is)
    (case l_neighbours => k_is)
    (case c_neighbours => k_is)
    (case k_neighbours => k_is)
    (case a_road_part => k_is)
    (case l_road_part => k_is)
    (case c_road_part => k_is)
    (case k_road_part => k_is)
    (case a_toll => k_is)
    (case l_toll => k_is)
    (case c_toll => k_is)
    (case k_toll => k_is)
    (case a_even_share => k_is)
    (case l_even_share => k_is)
    (case c_even_share => k_is)
    (case k_even_share => k_is)
    (case a_even_shares => k_is)
    (case l_even_shares => k_is)
    (case c_even_shares => k_is)
    (case k_even_shares => k_is)
    (case a_second_share => k_is)
    (case l_second_share => k_is)
    (case c_second_share => k_is)
    (case k_second_share => k_is)
    (case a_second_shares => k_is)
    (case l_second_shares => k_is)
    (case c_second_shares => k_is)
    (case k_second_shares => k_is)
    (case a_law => k_is)
    (case l_law => k_is)
    (case c_law => k_is)
    (case k_law => k_is)
    (case pg_Web => k_is)
    (case hd_Web => k_is)
    (case po_Web => k_is)
    (case sa_Web => k_is)
    (case mk_Web => k_is)
    (case kc_Web => k_is)
    (case nm_Web => k_is)
    (case nr_Web => k_is)
    (case z_range => k_is)
    (case z_len => k_is)
    (case z_isinstance => k_is)
    (case z_all => k_is)
    (case z_int => k_is)
    (case z_bool => k_is)
    (case z_tuple => k_is)
    (case z_list => k_is)
    (case z_sorted => k_is)
    (case z_sum => k_is)
    (case z_abs => k_is)
    (case v_MOST_PLACES => k_is)
    (case v_LEAST_TOLL => k_is)
    (case v_MOST_TOLL => k_is)
    (case v_ONE => k_is)
    (case vl_ONE => k_is)
#print axioms PySem.Challenge.cw_pebbletoll_k52_even_and_second_shares_holds
