import PyProof.Rows.All
import Wide.All
import OpenK.AllK
import Wide.FinOn
import Lean
import PyProof.EqAt
import PyProof.EqKinds
import PyProof.TupleCall
import PyProof.P3Eq
import PyProof.NeData
import PyProof.FitsBits
import PyProof.ZipIter
import PyProof.TupleIter
import KE.KRevIter
import PyProof.TupleOfGen
import PyProof.ListRange
import KE.KIsAll
import PyProof.ExcArgsOwn
import OpenK.KDescr
import PyProof.StationsW
import PyProof.ExcBaseAll.ValueError
import OpenK.KOwn
import PyProof.RulesAs
import PyProof.RulesDel
import PyProof.Rows.SortWalk
import PyProof.CompUse
import KE.KDictSum
import PyProof.WalkInts
import KE.KSortTup
import PyProof.Rows.TupDisplay
import KE.KIntText
import PyProof.JoinWalk
import PySem.Challenge.RW_pebbletoll_k57_whole_webs_as_texts
set_option Elab.async false
set_option linter.all false
set_option maxRecDepth 100000
namespace L2
open PySem PySem.Spec PyProof.Rows
abbrev Key := Sum Int Str
def keyIs : Key → Value → Bool
  | .inl k, v => Value.isInt k v
  | .inr x, v => Value.isStrOf x v
def keyH (w : World) : Key → Int
  | .inl k => hashInt k
  | .inr x => hashStr w x
theorem keyIs_shape : ∀ {k : Key} {v : Value}, keyIs k v = true → (∃ i t, k = Sum.inl i ∧ v = Value.int i t) ∨ (∃ x t, k = Sum.inr x ∧ v = Value.str x t)
  | .inl i, v, h => by
    obtain ⟨t, e⟩ := Value.isInt_shape (k := i) (v := v) h
    exact .inl ⟨i, t, rfl, e⟩
  | .inr x, v, h => by
    obtain ⟨t, e⟩ := Value.isStrOf_shape (x := x) (v := v) h
    exact .inr ⟨x, t, rfl, e⟩
theorem keyIs_int (i : Int) (t : Tok) : keyIs (.inl i) (.int i t) = true := by simp [keyIs, Value.isInt]
theorem keyIs_str (x : Str) (t : Tok) : keyIs (.inr x) (.str x t) = true := by simp [keyIs, Value.isStrOf]
theorem key_ll (a b : Int) : decide ((Sum.inl a : Key) = Sum.inl b) = (a == b) := by
  by_cases e : a = b
  · subst e; simp
  · have h : ¬ (Sum.inl a : Key) = Sum.inl b := fun q => e (Sum.inl.inj q)
    rw [decide_eq_false h]
    exact (beq_eq_false_iff_ne.mpr e).symm
theorem key_rr (a b : Str) : decide ((Sum.inr a : Key) = Sum.inr b) = decide (a = b) := by
  by_cases e : a = b
  · subst e; simp
  · have h : ¬ (Sum.inr a : Key) = Sum.inr b := fun q => e (Sum.inr.inj q)
    rw [decide_eq_false h, decide_eq_false e]
theorem key_lr (a : Int) (b : Str) : decide ((Sum.inl a : Key) = Sum.inr b) = false := decide_eq_false (fun q => nomatch q)
theorem key_rl (a : Str) (b : Int) : decide ((Sum.inr a : Key) = Sum.inl b) = false := decide_eq_false (fun q => nomatch q)
def mixKind (prog : Program) (w : World) : PySem.KeyKind prog w Key where
  is := keyIs
  hash := keyH w
  inj := fun v a b ha hb => by
    rcases keyIs_shape ha with ⟨i, t, rfl, rfl⟩ | ⟨x, t, rfl, rfl⟩
    · rcases keyIs_shape hb with ⟨j, u, rfl, e⟩ | ⟨y, u, rfl, e⟩
      · injection e with e1 _; rw [e1]
      · exact nomatch e
    · rcases keyIs_shape hb with ⟨j, u, rfl, e⟩ | ⟨y, u, rfl, e⟩
      · exact nomatch e
      · injection e with e1 _; rw [e1]
  byValue := fun k v h => by
    rcases keyIs_shape h with ⟨i, t, rfl, rfl⟩ | ⟨x, t, rfl, rfl⟩ <;> rfl
  pyHash := fun hv h => by
    rcases keyIs_shape hv with ⟨i, t, rfl, rfl⟩ | ⟨x, t, rfl, rfl⟩
    · exact wpAny_pyHash_int h
    · exact wpAny_pyHash_str h
  eqBool := fun hu hv h => by
    rcases keyIs_shape hu with ⟨i, t, rfl, rfl⟩ | ⟨x, t, rfl, rfl⟩
    · rcases keyIs_shape hv with ⟨j, u, rfl, rfl⟩ | ⟨y, u, rfl, rfl⟩
      · rw [key_ll] at h; exact wpAny_eqBool_int h
      · rw [key_lr] at h; exact SeqAt.EqAt.int_str i t y u _ _ _ _ h
    · rcases keyIs_shape hv with ⟨j, u, rfl, rfl⟩ | ⟨y, u, rfl, rfl⟩
      · rw [key_rl] at h; exact SeqAt.EqAt.str_int x t j u _ _ _ _ h
      · rw [key_rr] at h; exact wpAny_eqBool_str h
  «strs» := fun k x t v h => by
    rcases keyIs_shape h with ⟨i, u, rfl, e⟩ | ⟨y, u, rfl, e⟩
    · exact nomatch e
    · injection e with e1 _
      subst e1
      cases v <;> rfl
theorem mixKind_int (prog : Program) (w : World) (i : Int) (t : Tok) : (mixKind prog w).is (.inl i) (.int i t) = true := keyIs_int i t
theorem mixKind_str (prog : Program) (w : World) (x : Str) (t : Tok) : (mixKind prog w).is (.inr x) (.str x t) = true := keyIs_str x t
end L2
namespace L2
open PySem PySem.Spec PyProof.Rows
inductive V where
  | non | bl (b : Bool) | int (i : Int) | str (x : Str) | byt (b : Array UInt8) | flt (b : UInt64) | ref (a : Addr) | ty (n : String)
  deriving DecidableEq
def RelV : V → Value → Prop
  | .non, u => u = Value.none
  | .bl b, u => u = Value.bool b
  | .int i, u => ∃ t, u = Value.int i t
  | .str x, u => ∃ t, u = Value.str x t
  | .byt b, u => ∃ t, u = Value.bytes b t
  | .flt b, u => ∃ t, u = Value.float b t
  | .ref a, u => u = Value.ref a
  | .ty n, u => u = Value.type n
abbrev Vals : List V → List Value → Prop := Paired RelV
theorem Vals.length {xs : List V} {us : List Value} (r : Vals xs us) : xs.length = us.length := Paired.length r
theorem Vals.get : ∀ {xs : List V} {us : List Value} {i : Nat} {x : V}, Vals xs us → xs[i]? = some x → ∃ u, us[i]? = some u ∧ RelV x u
  | _, _, _, _, .nil, e => by simp at e
  | _, _, 0, _, .cons r _, e => by simp at e; subst e; exact ⟨_, rfl, r⟩
  | _, _, i + 1, x, .cons _ t, e => by
    obtain ⟨u, h1, h2⟩ := Vals.get (i := i) (x := x) t (by simpa using e)
    exact ⟨u, by simpa using h1, h2⟩
theorem Vals.append : ∀ {xs ys : List V} {us ws : List Value}, Vals xs us → Vals ys ws → Vals (xs ++ ys) (us ++ ws)
  | _, _, _, _, .nil, s => s
  | _, _, _, _, .cons r t, s => .cons r (Vals.append t s)
theorem Vals.take : ∀ {xs : List V} {us : List Value} (n : Nat), Vals xs us → Vals (xs.take n) (us.take n)
  | _, _, 0, _ => .nil
  | _, _, _ + 1, .nil => .nil
  | _, _, n + 1, .cons r t => .cons r (Vals.take n t)
theorem Vals.drop : ∀ {xs : List V} {us : List Value} (n : Nat), Vals xs us → Vals (xs.drop n) (us.drop n)
  | _, _, 0, r => r
  | _, _, _ + 1, .nil => .nil
  | _, _, n + 1, .cons _ t => Vals.drop n t
def RelO : Option V → Option Value → Prop
  | some v, some u => RelV v u
  | none, none => True
  | _, _ => False
def KV {κ : Type} : List (κ × V) → List (κ × Value) → Prop := Paired fun (p : κ × V) (q : κ × Value) => p.1 = q.1 ∧ RelV p.2 q.2
def kV : Key → V
  | .inl i => .int i
  | .inr x => .str x
inductive HO where
  /-- a list -/
  | lst (xs : List V)
  /-- a tuple (never changes) -/
  | tup (xs : List V)
  /-- a dict whose keys are ints and texts; one whose keys are tuples of ints and texts (the empty one is both) -/
  | dK (kvs : List (Key × V)) | dT (kvs : List (List Key × V))
  /-- a set of ints: its members, its size -/
  | set (S : Int → Bool) (n : Nat)
  /-- an instance of the class at C, its dict at dx, its attributes -/
  | ins (C dx : Addr) (fs : List (Str × V))
  /-- the dict of the instance at x -/
  | own (x : Addr)
  /-- the dict of an exception -/
  | xd (fs : List (Str × V))
  /-- a bound method, f of x -/
  | met (f x : Addr)
  /-- a range object lo, lo + 1, .. below hi -/
  | rng (lo hi : Int)
  /-- a thing that is known to the object (the script; a dict while a loop walks it): read, never written while it is so -/
  | frz (o : Obj) (u : HO)
  /-- a code object's table -/
  | tbl (ps : Array Value)
  /-- any other thing, by what is true of its one object (a def of one's own: SetO a S n := HO.ext fun h => ..) -/
  | ext (φ : Heap → Prop)
abbrev Hp := Addr → Option HO
def upd (H : Hp) (a : Addr) (o : HO) : Hp := fun b => if b = a then some o else H b
theorem upd_same {H : Hp} {a : Addr} {o : HO} : upd H a o a = some o := by unfold upd; rw [if_pos rfl]
theorem upd_ne {H : Hp} {a b : Addr} {o : HO} (h : b ≠ a) : upd H a o b = H b := by unfold upd; rw [if_neg h]
theorem upd_upd {H : Hp} {a : Addr} {o u : HO} : upd (upd H a o) a u = upd H a u := by
  funext b; unfold upd; split <;> rfl
theorem ne_of {H : Hp} {a b : Addr} {o u : HO} (h : H a = some o) (h' : H b = some u) (d : o ≠ u) : a ≠ b := by
  intro e; subst e; rw [h] at h'; exact d (Option.some.inj h')
theorem ne_of_none {H : Hp} {a b : Addr} {o : HO} (h : H a = some o) (h' : H b = none) : a ≠ b := by
  intro e; subst e; rw [h] at h'; cases h'
section
variable (P : Program) (w : World)
def ObjOk (H : Hp) (h : Heap) (a : Addr) : HO → Prop
  | .lst xs => xs.length ≤ sizeLine ∧ ∃ (its : List Value) (n : Nat), Vals xs its ∧ h.get? a = some { cls := .type "list", data := .seq its.toArray n }
  | .tup xs => xs.length ≤ sizeLine ∧ ∃ its : List Value, Vals xs its ∧ IsTup h a its.toArray
  | .dK kvs => kvs.length ≤ sizeLine ∧ (a == sysModules) = false ∧ ∃ vs, KV kvs vs ∧ h.DictOf (mixKind P w) a vs
  | .dT kvs => kvs.length ≤ sizeLine ∧ (a == sysModules) = false ∧ ∃ xs : List (List Key × Addr × Value),
      Paired (fun (p : List Key × V) (q : List Key × Addr × Value) => p.1 = q.1 ∧ H q.2.1 = some (.tup (p.1.map kV)) ∧ RelV p.2 q.2.2) kvs xs ∧
      ∃ o es ep, h.get? a = some o ∧ o.ExactDict ∧ o.data = .dict es ep ∧ es.toList = xs.map (entryOfKey (tupleKind (mixKind P w))) ∧ (xs.map (·.1)).Nodup
  | .set S n => h.SetOf (intKind P w) a S n
  | .ins C dx fs => H dx = some (.own a) ∧ fs.length ≤ 1000 ∧ dx ≠ a ∧ h.get? a = some (PySem.W.instObj C dx) ∧
      ∃ mA, h.Ns1 dx mA ∧ (∀ f, RelO (fs.lookup f) (mA f)) ∧ PySem.Within mA (fs.map (·.1))
  | .own _ => ∃ o, h.get? a = some o
  | .xd fs => ∃ mA, h.Ns1 a mA ∧ ∀ f, RelO (fs.lookup f) (mA f)
  | .rng lo hi => ∃ t u v, h.get? a = some { cls := .type "range", data := .fields #[.int lo t, .int hi u, .int 1 v] }
  | .frz o u => h.get? a = some o ∧ ObjOk H h a u
  | .tbl ps => h.get? a = some { cls := .none, data := .fields ps }
  | .met f x => h.get? a = some (PySem.W.methodObj (.ref f) (.ref x))
  | .ext φ => φ h ∧ (∃ o, h.get? a = some o) ∧ ∀ h1 h2 : Heap, φ h1 → (∀ o, h1.get? a = some o → h2.get? a = some o) → φ h2
def HOk (H : Hp) (h : Heap) : Prop := ∀ a o, H a = some o → ObjOk P w H h a o
end
section
variable {P : Program} {w : World} {H H' : Hp} {h h' : Heap} {a : Addr} {o : HO}
theorem ObjOk.lt (x : ObjOk P w H h a o) : a < h.objs.size := by
  cases o with
  | lst xs => obtain ⟨_, _, _, _, e⟩ := x; exact Heap.lt_size e
  | tup xs => obtain ⟨_, _, _, p⟩ := x; exact p.lt
  | dK kvs => obtain ⟨_, _, _, _, o, _, _, e, _⟩ := x; exact Heap.lt_size e
  | dT kvs => obtain ⟨_, _, _, _, o, _, _, e, _⟩ := x; exact Heap.lt_size e
  | set S n => obtain ⟨o, _, _, _, e, _⟩ := x; exact Heap.lt_size e
  | ins C dx fs => obtain ⟨_, _, _, e, _⟩ := x; exact Heap.lt_size e
  | own y => obtain ⟨_, e⟩ := x; exact Heap.lt_size e
  | xd fs => obtain ⟨_, ⟨_, _, _, e, _⟩, _⟩ := x; exact Heap.lt_size e
  | rng lo hi => obtain ⟨_, _, _, e⟩ := x; exact Heap.lt_size e
  | frz ob u => obtain ⟨e, _⟩ := x; exact Heap.lt_size e
  | tbl ps => exact Heap.lt_size (show h.get? a = some _ from x)
  | met f y => exact Heap.lt_size (show h.get? a = some _ from x)
  | ext φ => obtain ⟨_, ⟨_, e⟩, _⟩ := x; exact Heap.lt_size e
theorem Paired.mapP {α β : Type} {F G : α → β → Prop} : ∀ {l₁ : List α} {l₂ : List β}, Paired F l₁ l₂ → (∀ a b, F a b → G a b) → Paired G l₁ l₂
  | _, _, .nil, _ => .nil
  | _, _, .cons r t, f => .cons (f _ _ r) (Paired.mapP t f)
theorem Paired.imp' {α β : Type} {F G : α → β → Prop} (f : ∀ a b, F a b → G a b) {l₁ : List α} {l₂ : List β} (r : Paired F l₁ l₂) : Paired G l₁ l₂ := Paired.mapP r f
theorem ObjOk.stay (x : ObjOk P w H h a o) (k : ∀ b u, (b = a ∨ H b = some (.own a)) → h.get? b = some u → h'.get? b = some u)
    (ho : ∀ b, H b = some (.own a) → H' b = some (.own a)) (ht : ∀ b xs, H b = some (.tup xs) → H' b = some (.tup xs)) : ObjOk P w H' h' a o := by
  induction o with
  | lst xs => obtain ⟨z, its, n, r, e⟩ := x; exact ⟨z, its, n, r, k _ _ (.inl rfl) e⟩
  | tup xs => obtain ⟨z, its, r, ob, e, c⟩ := x; exact ⟨z, its, r, ob, k _ _ (.inl rfl) e, c⟩
  | dK kvs => obtain ⟨z, y, vs, r, ob, es, ep, e, c⟩ := x; exact ⟨z, y, vs, r, ob, es, ep, k _ _ (.inl rfl) e, c⟩
  | dT kvs =>
    obtain ⟨z, y, xs, r, ob, es, ep, e, c⟩ := x
    exact ⟨z, y, xs, Paired.mapP r fun p q z => ⟨z.1, ht _ _ z.2.1, z.2.2⟩, ob, es, ep, k _ _ (.inl rfl) e, c⟩
  | set S n => obtain ⟨ob, es, ep, t, e, c⟩ := x; exact ⟨ob, es, ep, t, k _ _ (.inl rfl) e, c⟩
  | ins C dx fs =>
    obtain ⟨d, z, ne, e, mA, ⟨od, es, ep, e2, c⟩, r⟩ := x
    exact ⟨ho _ d, z, ne, k _ _ (.inl rfl) e, mA, ⟨od, es, ep, k _ _ (.inr d) e2, c⟩, r⟩
  | own y => obtain ⟨ob, e⟩ := x; exact ⟨ob, k _ _ (.inl rfl) e⟩
  | xd fs => obtain ⟨mA, ⟨od, es, ep, e, c⟩, r⟩ := x; exact ⟨mA, ⟨od, es, ep, k _ _ (.inl rfl) e, c⟩, r⟩
  | rng lo hi => obtain ⟨t, u, v, e⟩ := x; exact ⟨t, u, v, k _ _ (.inl rfl) e⟩
  | frz ob u ih => obtain ⟨e, q⟩ := x; exact ⟨k _ _ (.inl rfl) e, ih q⟩
  | tbl ps =>
    have e : h.get? a = some { cls := .none, data := .fields ps } := x
    show h'.get? a = some { cls := .none, data := .fields ps }
    exact k a _ (.inl rfl) e
  | met f y =>
    have e : h.get? a = some (PySem.W.methodObj (.ref f) (.ref y)) := x
    show h'.get? a = some (PySem.W.methodObj (.ref f) (.ref y))
    exact k a _ (.inl rfl) e
  | ext φ => obtain ⟨p, ⟨o, e⟩, st⟩ := x; exact ⟨st _ _ p fun o q => k _ _ (.inl rfl) q, ⟨o, k _ _ (.inl rfl) e⟩, st⟩
theorem HOk.lt (x : HOk P w H h) (e : H a = some o) : a < h.objs.size := (x a o e).lt
theorem HOk.fresh (x : HOk P w H h) (e : h.objs.size ≤ a) : H a = none := by
  cases q : H a with
  | none => rfl
  | some u => exact absurd (Nat.lt_of_lt_of_le (x.lt q) e) (Nat.lt_irrefl _)
theorem HOk.kept (x : HOk P w H h) (k : ∀ b u, h.get? b = some u → h'.get? b = some u) : HOk P w H h' := fun a o e =>
  (x a o e).stay (fun b u _ q => k b u q) (fun _ q => q) fun _ _ q => q
theorem HOk.laid (x : HOk P w H h) (k : ∀ b u, h.get? b = some u → h'.get? b = some u) (hp : h.objs.size ≤ a) (new : ObjOk P w (upd H a o) h' a o) : HOk P w (upd H a o) h' := fun b u e => by
  have hn := x.fresh hp
  by_cases hb : b = a
  · subst hb; rw [upd_same] at e; cases e; exact new
  · rw [upd_ne hb] at e
    exact (x b u e).stay (fun c v _ q => k c v q) (fun c q => by rw [upd_ne (ne_of_none q hn)]; exact q) fun c xs q => by rw [upd_ne (ne_of_none q hn)]; exact q
end
def Rd (H : Hp) (a : Addr) (u : HO) : Prop := H a = some u ∨ ∃ o, H a = some (.frz o u)
theorem Rd.ok {P : Program} {w : World} {H : Hp} {h : Heap} {a : Addr} {u : HO} (r : Rd H a u) (x : HOk P w H h) : ObjOk P w H h a u := by
  rcases r with r | ⟨o, r⟩
  · exact x a u r
  · obtain ⟨_, q⟩ := x a _ r
    exact q
def Mut : Option HO → Prop
  | some (.lst _) => True
  | some (.dK _) => True
  | some (.dT _) => True
  | some (.set _ _) => True
  | some (.ins _ _ _) => True
  | some (.ext _) => True
  | _ => False
section
variable {P : Program} {w : World} {H : Hp} {h h' : Heap} {x e : Addr} {o' : HO}
theorem HOk.write (ok : HOk P w H h) (mu : Mut (H x)) (he : e = x ∨ H e = some (.own x)) (k : ∀ b u, b ≠ e → h.get? b = some u → h'.get? b = some u) (heo : ∃ u, h'.get? e = some u)
    (new : ObjOk P w (upd H x o') h' x o') : HOk P w (upd H x o') h' := fun b u q => by
  have nown : ∀ c y, H c = some (.own y) → c ≠ x := fun c y r z => by subst z; rw [r] at mu; exact mu
  have ntup : ∀ c xs, H c = some (.tup xs) → c ≠ x := fun c xs r z => by subst z; rw [r] at mu; exact mu
  by_cases hb : b = x
  · subst hb; rw [upd_same] at q; cases q; exact new
  · rw [upd_ne hb] at q
    by_cases hbe : b = e
    · have q' : H b = some (.own x) := by
        rcases he with z | z
        · exact absurd (hbe.trans z) hb
        · rw [hbe]; exact z
      rw [q] at q'; cases q'
      obtain ⟨v, hv⟩ := heo
      exact ⟨v, by rw [hbe]; exact hv⟩
    · refine (ok b u q).stay (fun c v hc r => k c v ?_ r) (fun c r => by rw [upd_ne (nown c b r)]; exact r) fun c xs r => by rw [upd_ne (ntup c xs r)]; exact r
      rcases hc with rfl | hc
      · exact hbe
      · rintro rfl
        rcases he with z | z
        · exact nown c b hc z
        · rw [hc] at z; cases z; exact hb rfl
end
structure Un (fs ex : List Addr) (H H' : Hp) (h h' : Heap) : Prop where
  keep : ∀ b o, h.get? b = some o → H b = none → b ∉ fs → b ∉ ex → h'.get? b = some o
  slot : ∀ b o, h.get? b = some o → H b = none → b ∈ fs → b ∉ ex → ∃ sl, h'.get? b = some { o with slots := sl }
  free : ∀ b o, h.get? b = some o → H b = none → b ∉ ex → H' b = none
  there : ∀ b o, h.get? b = some o → b ∉ ex → ∃ o', h'.get? b = some o'
  tups : ∀ b xs, H b = some (.tup xs) → H' b = some (.tup xs)
  frzs : ∀ b o u, H b = some (.frz o u) → H' b = some (.frz o u)
  tbls : ∀ b ps, H b = some (.tbl ps) → ∃ more, H' b = some (.tbl (ps ++ more))
section
variable {fs fs' ex ex' : List Addr} {H H1 H2 : Hp} {h h1 h2 h' : Heap} {a x e : Addr} {o : HO}
theorem Un.any (u : Un fs ex H H1 h h1) {b : Addr} {ob : Obj} (q : h.get? b = some ob) (n : H b = none) (hx : b ∉ ex) : ∃ sl, h1.get? b = some { ob with slots := sl } := by
  by_cases hb : b ∈ fs
  · exact u.slot b ob q n hb hx
  · exact ⟨ob.slots, u.keep b ob q n hb hx⟩
theorem Un.kept (k : ∀ b u, h.get? b = some u → h'.get? b = some u) : Un fs ex H H h h' :=
  ⟨fun b ob q _ _ _ => k b ob q, fun b ob q _ _ _ => ⟨ob.slots, k b ob q⟩, fun _ _ _ n _ => n, fun b ob q _ => ⟨ob, k b ob q⟩, fun _ _ q => q, fun _ _ _ q => q, fun _ ps q => ⟨#[], by rw [q]; simp⟩⟩
theorem Un.refl : Un fs ex H H h h := Un.kept fun _ _ q => q
theorem Un.laid (k : ∀ b u, h.get? b = some u → h'.get? b = some u) (hp : h.objs.size ≤ a) (hn : H a = none) : Un fs ex H (upd H a o) h h' where
  keep := fun b u q _ _ _ => k b u q
  slot := fun b u q _ _ _ => ⟨u.slots, k b u q⟩
  free := fun b u q n _ => by rw [upd_ne (Nat.ne_of_lt (Nat.lt_of_lt_of_le (Heap.lt_size q) hp))]; exact n
  there := fun b u q _ => ⟨u, k b u q⟩
  tups := fun b xs q => by rw [upd_ne (ne_of_none q hn)]; exact q
  frzs := fun b u xs q => by rw [upd_ne (ne_of_none q hn)]; exact q
  tbls := fun b ps q => ⟨#[], by rw [upd_ne (ne_of_none q hn), q]; simp⟩
theorem Un.write (mu : Mut (H x)) (he : e = x ∨ H e = some (.own x)) (k : ∀ b u, b ≠ e → h.get? b = some u → h'.get? b = some u) (heo : ∃ u, h'.get? e = some u) : Un fs ex H (upd H x o) h h' := by
  have hx : ∀ b, H b = none → b ≠ x := fun b n z => by subst z; rw [n] at mu; exact mu
  have hb : ∀ b, H b = none → b ≠ e := fun b n z => by
    subst z
    rcases he with r | r
    · exact hx b n r
    · rw [n] at r; cases r
  have hm : ∀ b u, H b = some u → ¬ Mut (some u) → b ≠ x := fun b u q nm z => by subst z; rw [q] at mu; exact nm mu
  refine ⟨fun b u q n _ _ => k b u (hb b n) q, fun b u q n _ _ => ⟨u.slots, k b u (hb b n) q⟩, fun b u q n _ => by rw [upd_ne (hx b n)]; exact n, fun b u q _ => ?_,
    fun b xs q => by rw [upd_ne (hm b _ q fun z => z)]; exact q, fun b u xs q => by rw [upd_ne (hm b _ q fun z => z)]; exact q, fun b ps q => ⟨#[], by rw [upd_ne (hm b _ q fun z => z), q]; simp⟩⟩
  by_cases hbe : b = e
  · subst hbe; exact heo
  · exact ⟨u, k b u hbe q⟩
end
def trk (h : Heap) (H : Hp) : List Addr := (List.range h.objs.size).filter fun a => (H a).isSome
def hidT (h : Heap) (H : Hp) : Heap := PySem.W.hideAll h (trk h H)
theorem hidT_size (h : Heap) (H : Hp) : (hidT h H).objs.size = h.objs.size := PySem.W.hideAll_size _ _
theorem hidT_get {h : Heap} {H : Hp} {b : Addr} {o : Obj} (e : h.get? b = some o) (n : H b = none) : (hidT h H).get? b = some o :=
  PySem.W.hideAll_get _ e fun hm => by
    have q : (H b).isSome = true := (List.mem_filter.mp hm).2
    rw [n] at q; simp at q
theorem of_hidT {h : Heap} {H : Hp} {b : Addr} {o : Obj} (e : (hidT h H).get? b = some o) : h.get? b = some o ∧ H b = none := by
  have e' : h.get? b = some o := PySem.W.of_hideAll (trk h H) e
  refine ⟨e', ?_⟩
  cases q : H b with
  | none => rfl
  | some x =>
    have hm : b ∈ trk h H := List.mem_filter.mpr ⟨List.mem_range.mpr (Heap.lt_size e'), by simp [q]⟩
    have z : (hidT h H).get? b = none := PySem.W.hideAll_none (trk h H) hm
    rw [z] at e; cases e
def allNews (g h : Heap) (L : Addr) : List (Addr × Obj) := (List.range h.objs.size).filterMap fun a => if a = L ∨ (g.get? a).isSome = true then none else (h.get? a).map fun o => (a, o)
def rest (g h : Heap) (L d : Addr) : List (Addr × Obj) := (allNews g h L).filter fun p => decide (p.1 ≠ d)
end L2
namespace L2
open PySem PySem.Spec PyProof.Rows
structure Mod (K : PySem.W.Frag) (mg : Str → Option Value) (base : Heap) : Prop where
  kin : K.In base
  glob : base.Ns mainGlobals mg
  blt : ∃ mb, base.Ns builtinsNs mb ∧ ∀ x : Str, x ≠ "__name__" → mb x = bootBuiltins x
  nolimit : base.NoLimit
structure Cx where
  prog : Program
  w : World
  K : PySem.W.Frag
  mg : Str → Option Value
  base : Heap
  A : Around
  N : List Str
  s₀ : Shared
  H₀ : Hp
  env : Env
  outer : List Env
  stack : List Env
  ex : List Addr
  fn : Str → Bool
  calm : Bool
  pn : List (Addr × Obj)
  xe : Value → Shared → Prop
def frs (l : List Env) : List Addr := l.filterMap (·.frame)
abbrev Cx.fs (X : Cx) : List Addr := frs X.outer
def Vis (sc : Scope) (x : Str) : Prop := sc.names.lookup x = some .local ∨ sc.names.lookup x = some .cell ∨ sc.names.lookup x = some .free
def Loc (sc : Scope) (x : Str) : Prop := sc.names.lookup x = some .local ∨ sc.names.lookup x = some .cell
def Look (env : Env) (h : Heap) (m : Str → Option Value) (x : Str) (u : Value) : Prop :=
  (env.kindOf x = some .local ∧ m x = some u) ∨ ((env.kindOf x = some .cell ∨ env.kindOf x = some .free) ∧ ∃ c, env.cells.lookup x = some c ∧ h.IsCell c (some u))
structure Cx.Ok (X : Cx) : Prop where
  mod : Mod X.K X.mg X.base
  kind : X.env.scope.kind = .function
  glob : X.env.globals = mainGlobals
  blt : X.env.builtins = builtinsNs
  above : X.s₀.heap.objs.size ≤ X.env.locals
  inj : ∀ x y c, X.env.cells.lookup x = some c → X.env.cells.lookup y = some c → x = y
  has : ∀ x, (X.env.kindOf x = some .cell ∨ X.env.kindOf x = some .free) → ∃ c, X.env.cells.lookup x = some c
  cab : ∀ x c, X.fn x = true → X.env.cells.lookup x = some c → X.s₀.heap.objs.size ≤ c
  hd : X.calm = true → X.A.handled = none
  frames : X.A.frames = some X.stack
  stk : X.stack = X.outer ∨ (X.stack = X.env :: X.outer ∧ X.env.frame = some X.env.locals)
  exf : ∀ b ∈ X.ex, b ≠ X.env.locals ∧ ∀ x c, X.env.cells.lookup x = some c → c ≠ b
  bs : ∀ b o, X.base.get? b = some o → X.s₀.heap.get? b = some o ∧ X.H₀ b = none
  bsz : X.base.objs.size ≤ X.s₀.heap.objs.size
  noex : ∀ b o, X.base.get? b = some o → b ∉ X.ex
  exfs : ∀ b ∈ X.ex, b ∉ X.fs
  funs : X.s₀.heap.FunFrames X.base X.outer
  frf : ∀ b ∈ X.fs, X.H₀ b = none
structure Inv (X : Cx) (pins : List (Addr × Obj)) (σ : List (Option V)) (H : Hp) (s : Shared) : Prop where
  ok : X.Ok
  os : s.os = X.s₀.os
  bare : AllBare s.gens
  base : Un X.fs X.ex X.H₀ H X.s₀.heap s.heap
  loc : ∃ m, s.heap.Ns X.env.locals m ∧ ∀ (i : Nat) (x : Str) (v : V), X.N[i]? = some x → σ[i]? = some (some v) → Vis X.env.scope x → ∃ u, RelV v u ∧ Look X.env s.heap m x u
  cell : ∀ x c, X.env.cells.lookup x = some c → ∃ v, s.heap.IsCell c v
  free : H X.env.locals = none
  freeC : ∀ x c, X.env.cells.lookup x = some c → H c = none
  pin : ∀ p ∈ X.pn ++ pins, s.heap.get? p.1 = some p.2 ∧ H p.1 = none ∧ p.1 ≠ X.env.locals ∧ p.1 ∉ X.fs ∧ ∀ v, p.2.data ≠ .cell v
  hok : HOk X.prog X.w H s.heap
  len : σ.length = X.N.length
section
variable {X : Cx} {pins : List (Addr × Obj)} {σ : List (Option V)} {H H' : Hp} {s : Shared} {h' : Heap}
theorem Cx.Ok.nofr (ok : X.Ok) {b : Addr} {o : Obj} (e : X.base.get? b = some o) : b ∉ X.fs := fun hb => by
  have := (ok.funs.mem hb).1
  rw [e] at this; cases this
theorem Inv.bs (I : Inv X pins σ H s) : ∀ b o, X.base.get? b = some o → s.heap.get? b = some o ∧ H b = none := fun b o e =>
  ⟨I.base.keep b o (I.ok.bs b o e).1 (I.ok.bs b o e).2 (I.ok.nofr e) (I.ok.noex b o e), I.base.free b o (I.ok.bs b o e).1 (I.ok.bs b o e).2 (I.ok.noex b o e)⟩
theorem Inv.bk (I : Inv X pins σ H s) : ∀ b o, X.base.get? b = some o → s.heap.get? b = some o := fun b o e => (I.bs b o e).1
theorem Inv.mod (I : Inv X pins σ H s) : Mod X.K X.mg X.base := I.ok.mod
theorem Inv.kIn (I : Inv X pins σ H s) : X.K.In s.heap := I.ok.mod.kin.keeps I.bk
theorem Inv.lt (I : Inv X pins σ H s) : X.env.locals < s.heap.objs.size := let ⟨_, hn, _⟩ := I.loc; hn.lt
theorem Inv.sz (I : Inv X pins σ H s) : X.s₀.heap.objs.size ≤ s.heap.objs.size := Nat.le_trans I.ok.above (Nat.le_of_lt I.lt)
theorem Inv.nofs (I : Inv X pins σ H s) {a : Addr} (h : s.heap.objs.size ≤ a) : a ∉ X.fs := fun hb => by
  obtain ⟨_, o, ho, _⟩ := I.ok.funs.mem hb
  exact absurd (Nat.lt_of_lt_of_le (Heap.lt_size ho) (Nat.le_trans I.sz h)) (Nat.lt_irrefl _)
theorem Inv.cne (I : Inv X pins σ H s) : ∀ x c, X.env.cells.lookup x = some c → c ≠ X.env.locals := fun x c e z => by
  obtain ⟨v, o, ho, hd⟩ := I.cell x c e
  obtain ⟨m, ⟨o', es, ep, ho', hd', _⟩, _⟩ := I.loc
  rw [z, ho'] at ho; cases ho; rw [hd'] at hd; cases hd
theorem Inv.funs (I : Inv X pins σ H s) : s.heap.FunFrames X.base X.outer := by
  have all : ∀ (l : List Env), (∀ b ∈ frs l, b ∈ X.fs) → X.s₀.heap.FunFrames X.base l → s.heap.FunFrames X.base l := by
    intro l
    induction l with
    | nil => intro _ _; trivial
    | cons env r ih =>
      intro hs hl
      obtain ⟨hk, ⟨L, o, hf, hn, ho, hd⟩, hr⟩ := hl
      have hL : L ∈ X.fs := hs L (by unfold frs; rw [List.filterMap_cons, hf]; exact List.mem_cons_self)
      obtain ⟨sl, e⟩ := I.base.slot L o ho (I.ok.frf L hL) hL fun z => I.ok.exfs L z hL
      exact ⟨hk, ⟨L, _, hf, hn, e, hd⟩, ih (fun b hb => hs b (by unfold frs; rw [List.filterMap_cons, hf]; exact List.mem_cons_of_mem _ hb)) hr⟩
  exact all X.outer (fun _ hb => hb) I.ok.funs
theorem Inv.stack (I : Inv X pins σ H s) : s.heap.FunFrames X.base X.stack := by
  rcases I.ok.stk with e | ⟨e, hf⟩
  · rw [e]; exact I.funs
  · rw [e]
    obtain ⟨m, hn, _⟩ := I.loc
    refine .cons (by rw [I.ok.kind]; decide) hf hn ?_ I.funs
    exact Heap.get?_none_of_le (Nat.le_trans I.ok.bsz I.ok.above)
theorem Inv.stkSub (I : Inv X pins σ H s) : ∀ b ∈ frs X.stack, b ∈ X.env.locals :: X.fs := fun b hb => by
  rcases I.ok.stk with e | ⟨e, hf⟩
  · rw [e] at hb; exact List.mem_cons_of_mem _ hb
  · rw [e] at hb
    unfold frs at hb
    rw [List.filterMap_cons, hf] at hb
    exact hb
theorem Inv.stkFree (I : Inv X pins σ H s) : ∀ b ∈ frs X.stack, H b = none := fun b hb => by
  rcases List.mem_cons.mp (I.stkSub b hb) with e | hb
  · rw [e]; exact I.free
  · obtain ⟨_, o, ho, _⟩ := I.ok.funs.mem hb
    exact I.base.free b o ho (I.ok.frf b hb) fun z => I.ok.exfs b z hb
theorem Inv.step {g' : Array GenState} {t' : Nat} {d' : Drawn} {ch : List Addr} (I : Inv X pins σ H s)
    (hch : ∀ b ∈ ch, (b ∈ X.ex ∨ X.s₀.heap.objs.size ≤ b) ∧ b ≠ X.env.locals ∧ (∀ x c, X.env.cells.lookup x = some c → c ≠ b) ∧ ∀ p ∈ X.pn ++ pins, p.1 ≠ b)
    (keep : ∀ b o, b ≠ X.env.locals → b ∉ X.fs → b ∉ ch → s.heap.get? b = some o → H b = none → h'.get? b = some o)
    (slot : ∀ b o, b ≠ X.env.locals → b ∈ X.fs → b ∉ ch → s.heap.get? b = some o → H b = none → ∃ sl, h'.get? b = some { o with slots := sl }) (free : ∀ b o, b ∉ ch → s.heap.get? b = some o → H b = none → H' b = none)
    (there : ∀ b o, b ∉ ch → s.heap.get? b = some o → ∃ o', h'.get? b = some o')
    (tups : ∀ b xs, H b = some (.tup xs) → H' b = some (.tup xs)) (frzs : ∀ b o u, H b = some (.frz o u) → H' b = some (.frz o u)) (tbls : ∀ b ps, H b = some (.tbl ps) → ∃ more, H' b = some (.tbl (ps ++ more)))
    (ns : ∀ m, s.heap.Ns X.env.locals m → h'.Ns X.env.locals m) (hok : HOk X.prog X.w H' h') (hg : AllBare g') :
    Inv X pins σ H' { s with heap := h', gens := g', drawn := d', toks := t' } := by
  have neL : ∀ b o, X.s₀.heap.get? b = some o → b ≠ X.env.locals := fun b o e => Nat.ne_of_lt (Nat.lt_of_lt_of_le (Heap.lt_size e) I.ok.above)
  have neC : ∀ b o, X.s₀.heap.get? b = some o → b ∉ X.ex → b ∉ ch := fun b o e hx hb => by
    rcases (hch b hb).1 with z | z
    · exact hx z
    · exact absurd (Nat.lt_of_lt_of_le (Heap.lt_size e) z) (Nat.lt_irrefl _)
  have cellK : ∀ x c, X.env.cells.lookup x = some c → ∀ v, s.heap.IsCell c v → h'.IsCell c v := fun x c e v ⟨o, ho, hd⟩ => by
    have nch : c ∉ ch := fun z => (hch c z).2.2.1 x c e rfl
    by_cases hc : c ∈ X.fs
    · obtain ⟨sl, q⟩ := slot c o (I.cne x c e) hc nch ho (I.freeC x c e)
      exact ⟨_, q, hd⟩
    · exact ⟨o, keep c o (I.cne x c e) hc nch ho (I.freeC x c e), hd⟩
  refine ⟨I.ok, I.os, hg, ⟨fun b o e n hb hx => ?_, fun b o e n hb hx => ?_, fun b o e n hx => ?_, fun b o e hx => ?_, fun b xs e => tups b xs (I.base.tups b xs e), fun b o xs e => frzs b o xs (I.base.frzs b o xs e), fun b ps e => ?_⟩, ?_, fun x c e => ?_, ?_, fun x c e => ?_, fun p hp => ?_, hok, I.len⟩
  · exact keep b o (neL b o e) hb (neC b o e hx) (I.base.keep b o e n hb hx) (I.base.free b o e n hx)
  · obtain ⟨sl, e1⟩ := I.base.slot b o e n hb hx
    obtain ⟨sl', e2⟩ := slot b _ (neL b o e) hb (neC b o e hx) e1 (I.base.free b o e n hx)
    exact ⟨sl', e2⟩
  · obtain ⟨o', e1⟩ := I.base.there b o e hx
    exact free b o' (neC b o e hx) e1 (I.base.free b o e n hx)
  · obtain ⟨o', e1⟩ := I.base.there b o e hx
    exact there b o' (neC b o e hx) e1
  · obtain ⟨m1, e1⟩ := I.base.tbls b ps e
    obtain ⟨m2, e2⟩ := tbls b _ e1
    exact ⟨m1 ++ m2, by rw [e2, Array.append_assoc]⟩
  · obtain ⟨m, hn, hl⟩ := I.loc
    refine ⟨m, ns m hn, fun i x v e1 e2 e3 => ?_⟩
    obtain ⟨u, r, l⟩ := hl i x v e1 e2 e3
    refine ⟨u, r, ?_⟩
    rcases l with l | ⟨k, c, e, z⟩
    · exact .inl l
    · exact .inr ⟨k, c, e, cellK x c e _ z⟩
  · obtain ⟨v, z⟩ := I.cell x c e
    exact ⟨v, cellK x c e v z⟩
  · obtain ⟨m, ⟨o, _, _, ho, _⟩, _⟩ := I.loc
    exact free _ o (fun z => (hch _ z).2.1 rfl) ho I.free
  · obtain ⟨v, o, ho, hd⟩ := I.cell x c e
    exact free c o (fun z => (hch c z).2.2.1 x c e rfl) ho (I.freeC x c e)
  · obtain ⟨e, n, ne, nf, d⟩ := I.pin p hp
    have nch : p.1 ∉ ch := fun z => (hch p.1 z).2.2.2 p hp rfl
    exact ⟨keep p.1 p.2 ne nf nch e n, free p.1 p.2 nch e n, ne, nf, d⟩
theorem Inv.un {t' : Nat} (I : Inv X pins σ H s) (u : Un X.fs [] H H' s.heap h') (hok : HOk X.prog X.w H' h') : Inv X pins σ H' { s with heap := h', toks := t' } := by
  obtain ⟨m, ⟨o, es, ep, ho, r⟩, _⟩ := id I.loc
  obtain ⟨sl, hL⟩ := u.any ho I.free (by simp)
  exact I.step (g' := s.gens) (d' := s.drawn) (ch := []) (fun _ z => nomatch z) (fun b o _ hb _ e n => u.keep b o e n hb (by simp)) (fun b o _ hb _ e n => u.slot b o e n hb (by simp)) (fun b o _ e n => u.free b o e n (by simp)) (fun b o _ e => u.there b o e (by simp)) u.tups u.frzs u.tbls (fun m' hm => by
    obtain ⟨o', es', ep', ho', r'⟩ := hm
    rw [ho] at ho'; cases ho'
    exact ⟨_, es', ep', hL, r'⟩) hok I.bare
theorem Inv.call {g' : Array GenState} {t' : Nat} {d' : Drawn} {ch : List Addr} (I : Inv X pins σ H s) (u : Un (frs X.stack) ch H H' s.heap h') (hok : HOk X.prog X.w H' h') (hg : AllBare g')
    (hch : ∀ b ∈ ch, (b ∈ X.ex ∨ X.s₀.heap.objs.size ≤ b) ∧ b ≠ X.env.locals ∧ (∀ x c, X.env.cells.lookup x = some c → c ≠ b) ∧ ∀ p ∈ X.pn ++ pins, p.1 ≠ b) :
    Inv X pins σ H' { s with heap := h', gens := g', drawn := d', toks := t' } := by
  obtain ⟨m, ⟨o, es, ep, ho, r⟩, _⟩ := id I.loc
  obtain ⟨sl, hL⟩ := u.any ho I.free fun z => (hch _ z).2.1 rfl
  exact I.step (ch := ch) hch (fun b o hL hb hc e n => u.keep b o e n (fun z => (List.mem_cons.mp (I.stkSub b z)).elim hL hb) hc) (fun b o _ _ hc e n => u.any e n hc) (fun b o hc e n => u.free b o e n hc) (fun b o hc e => u.there b o e hc) u.tups u.frzs u.tbls (fun m' hm => by
    obtain ⟨o', es', ep', ho', r'⟩ := hm
    rw [ho] at ho'; cases ho'
    exact ⟨_, es', ep', hL, r'⟩) hok hg
theorem Inv.turned {t' : Nat} {it : Addr} (I : Inv X pins σ H s) (k : ∀ b o, b ≠ it → s.heap.get? b = some o → h'.get? b = some o) (hn : H it = none) (hL : it ≠ X.env.locals)
    (h1 : it ∈ X.ex ∨ X.s₀.heap.objs.size ≤ it) (h2 : ∀ x c, X.env.cells.lookup x = some c → c ≠ it) (h3 : ∀ p ∈ X.pn ++ pins, p.1 ≠ it) : Inv X pins σ H { s with heap := h', toks := t' } := by
  have nit : ∀ b u, H b = some u → b ≠ it := fun b u e z => by rw [z, hn] at e; cases e
  refine I.step (g' := s.gens) (d' := s.drawn) (ch := [it]) (fun b hb => ?_) (fun b o _ _ hc e _ => k b o (fun z => hc (by simp [z])) e) (fun b o _ _ hc e _ => ⟨o.slots, k b o (fun z => hc (by simp [z])) e⟩) (fun _ _ _ _ n => n)
    (fun b o hc e => ⟨o, k b o (fun z => hc (by simp [z])) e⟩) (fun _ _ e => e) (fun _ _ _ e => e) (fun b ps e => ⟨#[], by rw [e]; simp⟩) (fun m hm => ?_) (fun b u e => ?_) I.bare
  · have e : b = it := by simpa using hb
    subst e
    exact ⟨h1, hL, h2, h3⟩
  · obtain ⟨o, es, ep, ho, r⟩ := hm
    exact ⟨o, es, ep, k _ o (Ne.symm hL) ho, r⟩
  · refine (I.hok b u e).stay (fun c v hc q => k c v ?_ q) (fun _ q => q) fun _ _ q => q
    rcases hc with z | z
    · rw [z]; exact nit b u e
    · exact nit c _ z
theorem Inv.tok (I : Inv X pins σ H s) (t : Nat) : Inv X pins σ H { s with toks := t } := I.un (h' := s.heap) (t' := t) Un.refl I.hok
theorem Inv.kept {t' : Nat} (I : Inv X pins σ H s) (k : ∀ b u, s.heap.get? b = some u → h'.get? b = some u) : Inv X pins σ H { s with heap := h', toks := t' } := I.un (Un.kept k) (I.hok.kept k)
theorem Inv.laid {a : Addr} {o : HO} {t' : Nat} (I : Inv X pins σ H s) (k : ∀ b u, s.heap.get? b = some u → h'.get? b = some u) (hp : s.heap.objs.size ≤ a) (new : ObjOk X.prog X.w (upd H a o) h' a o) :
    Inv X pins σ (upd H a o) { s with heap := h', toks := t' } := I.un (Un.laid k hp (I.hok.fresh hp)) (I.hok.laid k hp new)
theorem Inv.write {x e : Addr} {o : HO} {t' : Nat} (I : Inv X pins σ H s) (mu : Mut (H x)) (he : e = x ∨ H e = some (.own x)) (k : ∀ b u, b ≠ e → s.heap.get? b = some u → h'.get? b = some u) (heo : ∃ u, h'.get? e = some u)
    (new : ObjOk X.prog X.w (upd H x o) h' x o) : Inv X pins σ (upd H x o) { s with heap := h', toks := t' } := I.un (Un.write mu he k heo) (I.hok.write mu he k heo new)
theorem Inv.pins_of {pins' : List (Addr × Obj)} (I : Inv X pins σ H s) (h : ∀ p ∈ pins', s.heap.get? p.1 = some p.2 ∧ H p.1 = none ∧ p.1 ≠ X.env.locals ∧ p.1 ∉ X.fs ∧ ∀ v, p.2.data ≠ .cell v) : Inv X pins' σ H s :=
  ⟨I.ok, I.os, I.bare, I.base, I.loc, I.cell, I.free, I.freeC, fun p hp => (List.mem_append.mp hp).elim (fun z => I.pin p (List.mem_append_left _ z)) (h p), I.hok, I.len⟩
theorem nodup_ix {N : List Str} (hN : N.Nodup) {i j : Nat} {x : Str} (a : N[i]? = some x) (b : N[j]? = some x) : i = j := by
  obtain ⟨h1, e1⟩ := List.getElem?_eq_some_iff.mp a
  obtain ⟨h2, e2⟩ := List.getElem?_eq_some_iff.mp b
  exact (List.getElem_inj hN).mp (e1.trans e2.symm)
theorem store_ok2 {M : Model} {A : Around} {E : Value → Shared → Prop} {i : Nat} {x : Str} {v : V} {u : Value} {Q : Unit → Shared → Prop} (I : Inv X pins σ H s) (hN : X.N.Nodup) (hi : X.N[i]? = some x) (hx : Loc X.env.scope x) (r : RelV v u)
    (h : ∀ s', Inv X pins (σ.set i (some v)) H s' → (∃ a, Heap.SameBut a s.heap s'.heap ∧ (a = X.env.locals ∨ X.env.cells.lookup x = some a)) → Q () s') (hf : X.fn x = true ∨ X.env.scope.names.lookup x = some .local := by first | exact .inl rfl | exact .inr rfl | assumption) : wpAny M A (storeName X.env x u) Q E s := by
  obtain ⟨m, hn, hl⟩ := id I.loc
  have hcls : (X.env.scope.kind == .class || (X.env.scope.kind == .module && X.env.locals != X.env.globals)) = false := by rw [I.ok.kind]; rfl
  have hiσ : i < σ.length := by rw [I.len]; exact (List.getElem?_eq_some_iff.mp hi).1
  have cne := I.cne
  have tracked : ∀ {a : Addr} {h' : Heap}, (∃ o, s.heap.get? a = some o ∧ H a = none) → Heap.SameBut a s.heap h' → HOk X.prog X.w H h' := fun {a h'} ha hs b ob e => by
    obtain ⟨_, _, hfree⟩ := ha
    refine (I.hok b ob e).stay (fun c w' hc q => (hs.2 c ?_).trans q) (fun _ q => q) fun _ _ q => q
    rintro rfl
    rcases hc with rfl | hc
    · rw [hfree] at e; cases e
    · rw [hfree] at hc; cases hc
  rcases hx with hk | hk
  · refine wpAny_storeName_local hk hn (fun h' hn' hs => ?_) hcls
    obtain ⟨oL, _, _, hoL, _⟩ := id hn
    refine h _ ⟨I.ok, I.os, I.bare, ⟨fun b o e n hb hx => ?_, fun b o e n hb hx => ?_, I.base.free, fun b o e hx => ?_, I.base.tups, I.base.frzs, I.base.tbls⟩, ⟨_, hn', fun j y v' e1 e2 e3 => ?_⟩, fun y c e => ?_, I.free, I.freeC, fun p hp => ?_, tracked ⟨oL, hoL, I.free⟩ hs, by simpa using I.len⟩ ⟨_, hs, .inl rfl⟩
    · exact (hs.2 b (Nat.ne_of_lt (Nat.lt_of_lt_of_le (Heap.lt_size e) I.ok.above))).trans (I.base.keep b o e n hb hx)
    · obtain ⟨sl, e1⟩ := I.base.slot b o e n hb hx
      exact ⟨sl, (hs.2 b (Nat.ne_of_lt (Nat.lt_of_lt_of_le (Heap.lt_size e) I.ok.above))).trans e1⟩
    · obtain ⟨o', e1⟩ := I.base.there b o e hx
      exact ⟨o', (hs.2 b (Nat.ne_of_lt (Nat.lt_of_lt_of_le (Heap.lt_size e) I.ok.above))).trans e1⟩
    · by_cases hj : j = i
      · subst hj
        rw [hi] at e1; cases e1
        rw [List.getElem?_set_self hiσ] at e2
        cases e2
        exact ⟨u, r, .inl ⟨hk, by simp⟩⟩
      · rw [List.getElem?_set_ne (Ne.symm hj)] at e2
        obtain ⟨u', r', q⟩ := hl j y v' e1 e2 e3
        refine ⟨u', r', ?_⟩
        rcases q with ⟨k, e⟩ | ⟨k, c, e, z⟩
        · refine .inl ⟨k, ?_⟩
          have : y ≠ x := fun e => hj (nodup_ix hN e1 (e ▸ hi))
          simp [this, e]
        · exact .inr ⟨k, c, e, z.sameBut hs (cne y c e)⟩
    · obtain ⟨w', z⟩ := I.cell y c e
      exact ⟨w', z.sameBut hs (cne y c e)⟩
    · obtain ⟨e, n, ne, nf, d⟩ := I.pin p hp
      exact ⟨(hs.2 p.1 ne).trans e, n, ne, nf, d⟩
  · have hfn : X.fn x = true := by
      rcases hf with z | z
      · exact z
      · rw [z] at hk; cases hk
    obtain ⟨c, hc⟩ := I.ok.has x (.inl hk)
    obtain ⟨w', z⟩ := I.cell x c hc
    refine wpAny_storeName_cell I.ok.kind hk hc z (fun h' hc' hs => ?_)
    obtain ⟨oc, hoc, hocd⟩ := id z
    refine h { s with heap := h' } ⟨I.ok, I.os, I.bare, ⟨fun b o e n hb hx => ?_, fun b o e n hb hx => ?_, I.base.free, fun b o e hx => ?_, I.base.tups, I.base.frzs, I.base.tbls⟩, ⟨m, hn.sameBut hs (Ne.symm (cne x c hc)), fun j y v' e1 e2 e3 => ?_⟩, fun y c' e => ?_, I.free, I.freeC, fun p hp => ?_, tracked ⟨oc, hoc, I.freeC x c hc⟩ hs, by simpa using I.len⟩ ⟨c, hs, .inr hc⟩
    · exact (hs.2 b (Nat.ne_of_lt (Nat.lt_of_lt_of_le (Heap.lt_size e) (I.ok.cab x c hfn hc)))).trans (I.base.keep b o e n hb hx)
    · obtain ⟨sl, e1⟩ := I.base.slot b o e n hb hx
      exact ⟨sl, (hs.2 b (Nat.ne_of_lt (Nat.lt_of_lt_of_le (Heap.lt_size e) (I.ok.cab x c hfn hc)))).trans e1⟩
    · obtain ⟨o', e1⟩ := I.base.there b o e hx
      exact ⟨o', (hs.2 b (Nat.ne_of_lt (Nat.lt_of_lt_of_le (Heap.lt_size e) (I.ok.cab x c hfn hc)))).trans e1⟩
    · by_cases hj : j = i
      · subst hj
        rw [hi] at e1; cases e1
        rw [List.getElem?_set_self hiσ] at e2
        cases e2
        exact ⟨u, r, .inr ⟨.inl hk, c, hc, hc'⟩⟩
      · rw [List.getElem?_set_ne (Ne.symm hj)] at e2
        obtain ⟨u', r', q⟩ := hl j y v' e1 e2 e3
        refine ⟨u', r', ?_⟩
        rcases q with q | ⟨k, c', e, z'⟩
        · exact .inl q
        · refine .inr ⟨k, c', e, z'.sameBut hs ?_⟩
          rintro rfl
          exact hj (nodup_ix hN e1 (I.ok.inj _ _ _ e hc ▸ hi))
    · by_cases hcc : c' = c
      · subst hcc; exact ⟨_, hc'⟩
      · obtain ⟨w2, z2⟩ := I.cell y c' e
        exact ⟨w2, z2.sameBut hs hcc⟩
    · obtain ⟨e, n, ne, nf, d⟩ := I.pin p hp
      refine ⟨(hs.2 p.1 ?_).trans e, n, ne, nf, d⟩
      intro q
      rw [q, hoc] at e
      have q' : oc = p.2 := Option.some.inj e
      exact d w' (by rw [← q']; exact hocd)
theorem store_ok {M : Model} {A : Around} {E : Value → Shared → Prop} {i : Nat} {x : Str} {v : V} {u : Value} {Q : Unit → Shared → Prop} (I : Inv X pins σ H s) (hN : X.N.Nodup) (hi : X.N[i]? = some x) (hx : Loc X.env.scope x) (r : RelV v u)
    (h : ∀ s', Inv X pins (σ.set i (some v)) H s' → Q () s') (hf : X.fn x = true ∨ X.env.scope.names.lookup x = some .local := by first | exact .inl rfl | exact .inr rfl | assumption) : wpAny M A (storeName X.env x u) Q E s :=
  store_ok2 I hN hi hx r (fun s' I' _ => h s' I') hf
theorem Inv.call' {s' : Shared} {ch : List Addr} (I : Inv X pins σ H s) (ho : s'.os = s.os) (u : Un (frs X.stack) ch H H' s.heap s'.heap) (hok : HOk X.prog X.w H' s'.heap) (hg : AllBare s'.gens)
    (hch : ∀ b ∈ ch, (b ∈ X.ex ∨ X.s₀.heap.objs.size ≤ b) ∧ b ≠ X.env.locals ∧ (∀ x c, X.env.cells.lookup x = some c → c ≠ b) ∧ ∀ p ∈ X.pn ++ pins, p.1 ≠ b) : Inv X pins σ H' s' := by
  obtain ⟨h', g', d', t', o'⟩ := s'
  have e : o' = s.os := ho
  subst e
  exact I.call (g' := g') (t' := t') (d' := d') u hok hg hch
end
abbrev XK := Value → Option Addr → Hp → Prop
abbrev St := List (Option V)
abbrev VK := V → Hp → Prop
abbrev TE := St → Hp → VK → Prop
abbrev TT := St → Hp → (Bool → Hp → Prop) → Prop
abbrev TA := St → Hp → (List V → Hp → Prop) → Prop
structure Ends where
  nx : St → Hp → Prop
  rt : VK
  bk : St → Hp → Prop := fun _ _ => False
  ct : St → Hp → Prop := fun _ _ => False
abbrev TS := Ends → St → Hp → Prop
def EP (X : Cx) (pins : List (Addr × Obj)) (σ : St) (Q : VK) (u : Value) (s' : Shared) : Prop := ∃ v H', Inv X pins σ H' s' ∧ RelV v u ∧ Q v H'
def TP (X : Cx) (pins : List (Addr × Obj)) (σ : St) (Q : Bool → Hp → Prop) (b : Bool) (s' : Shared) : Prop := ∃ H', Inv X pins σ H' s' ∧ Q b H'
def AP (X : Cx) (pins : List (Addr × Obj)) (σ : St) (Q : List V → Hp → Prop) (us : List Value) (s' : Shared) : Prop := ∃ vs H', Inv X pins σ H' s' ∧ Vals vs us ∧ Q vs H'
def SP (X : Cx) (pins : List (Addr × Obj)) (D : Ends) (f : Flow) (s' : Shared) : Prop :=
  match f with
  | .next => ∃ σ' H', Inv X pins σ' H' s' ∧ D.nx σ' H'
  | .brk => ∃ σ' H', Inv X pins σ' H' s' ∧ D.bk σ' H'
  | .cont => ∃ σ' H', Inv X pins σ' H' s' ∧ D.ct σ' H'
  | .ret u => ∃ v σ' H', Inv X pins σ' H' s' ∧ RelV v u ∧ D.rt v H'
def PE (X : Cx) (e : Expr) (t : TE) : Prop :=
  ∀ (pins : List (Addr × Obj)) (s : Shared) (σ : St) (H : Hp) (Q : VK), Inv X pins σ H s → t σ H Q → wpAny (model X.prog X.w) X.A (eval e X.env) (EP X pins σ Q) X.xe s
def PT (X : Cx) (e : Expr) (t : TT) : Prop :=
  ∀ (pins : List (Addr × Obj)) (s : Shared) (σ : St) (H : Hp) (Q : Bool → Hp → Prop), Inv X pins σ H s → t σ H Q → wpAny (model X.prog X.w) X.A (isTrue e X.env (eval e X.env)) (TP X pins σ Q) X.xe s
def PW (X : Cx) (e : Expr) (t : TT) : Prop :=
  ∀ (whole : Sem Value) (pins : List (Addr × Obj)) (s : Shared) (σ : St) (H : Hp) (Q : Bool → Hp → Prop), Inv X pins σ H s → t σ H Q → wpAny (model X.prog X.w) X.A (isTrue e X.env whole) (TP X pins σ Q) X.xe s
theorem PW.pt {X : Cx} {e : Expr} {t : TT} (h : PW X e t) : PT X e t := h _
def PA (X : Cx) (es : List Expr) (t : TA) : Prop :=
  ∀ (pos : Pos) (pins : List (Addr × Obj)) (s : Shared) (σ : St) (H : Hp) (Q : List V → Hp → Prop), Inv X pins σ H s → t σ H Q → wpAny (model X.prog X.w) X.A (spliced (backTo pos (starEach es X.env))) (AP X pins σ Q) X.xe s
def PS (X : Cx) (st : Stmt) (t : TS) : Prop :=
  ∀ (pins : List (Addr × Obj)) (s : Shared) (σ : St) (H : Hp) (D : Ends), Inv X pins σ H s → t D σ H → wpAny (model X.prog X.w) X.A (exec st X.env) (SP X pins D) X.xe s
def PSs (X : Cx) (st : List Stmt) (t : TS) : Prop :=
  ∀ (pins : List (Addr × Obj)) (s : Shared) (σ : St) (H : Hp) (D : Ends), Inv X pins σ H s → t D σ H → wpAny (model X.prog X.w) X.A (execs st X.env) (SP X pins D) X.xe s
theorem thn {α : Type} {t : Sem α} {Q Q' : α → Shared → Prop} {M : Model} {A : Around} {E : Value → Shared → Prop} {s : Shared} (h : wpAny M A t Q E s) (hQ : ∀ a s, Q a s → Q' a s) : wpAny M A t Q' E s := wpAny_mono h hQ fun _ _ x => x
theorem thnE {t : Sem Value} {X : Cx} {pins : List (Addr × Obj)} {σ : St} {Q : VK} {Q' : Value → Shared → Prop} {M : Model} {A : Around} {E : Value → Shared → Prop} {s : Shared} (h : wpAny M A t (EP X pins σ Q) E s) (hQ : ∀ u s v H, Inv X pins σ H s → RelV v u → Q v H → Q' u s) : wpAny M A t Q' E s := thn h fun u s ⟨v, H, I, r, q⟩ => hQ u s v H I r q
theorem thnA {t : Sem (List Value)} {X : Cx} {pins : List (Addr × Obj)} {σ : St} {Q : List V → Hp → Prop} {Q' : List Value → Shared → Prop} {M : Model} {A : Around} {E : Value → Shared → Prop} {s : Shared} (h : wpAny M A t (AP X pins σ Q) E s) (hQ : ∀ u s v H, Inv X pins σ H s → Vals v u → Q v H → Q' u s) : wpAny M A t Q' E s := thn h fun u s ⟨v, H, I, r, q⟩ => hQ u s v H I r q
theorem thnT {t : Sem Bool} {X : Cx} {pins : List (Addr × Obj)} {σ : St} {Q : Bool → Hp → Prop} {Q' : Bool → Shared → Prop} {M : Model} {A : Around} {E : Value → Shared → Prop} {s : Shared} (h : wpAny M A t (TP X pins σ Q) E s) (hQ : ∀ u s H, Inv X pins σ H s → Q u H → Q' u s) : wpAny M A t Q' E s := thn h fun u s ⟨H, I, q⟩ => hQ u s H I q
end L2
namespace L2
open PySem PySem.Spec PyProof.Rows
section
variable {X : Cx}
def tVar (i : Nat) : TE := fun σ H Q => ∃ v, σ[i]? = some (some v) ∧ Q v H
def tC (v : V) : TE := fun _ H Q => Q v H
theorem pe_var {i : Nat} {x : Str} {pos : Pos} (hN : X.N[i]? = some x) (hv : Vis X.env.scope x) (hd : (x == ("__debug__" : Str)) = false := by decide) (hcd : (x == ("__classdict__" : Str)) = false := by decide) : PE X (.Name x pos) (tVar i) := by
  intro pins s σ H Q I h
  obtain ⟨v, e, h⟩ := h
  obtain ⟨m, hn, hl⟩ := I.loc
  obtain ⟨u, r, l⟩ := hl i x v hN e hv
  have fin : EP X pins σ Q u s := ⟨v, H, I, r, h⟩
  rcases l with ⟨hk, hm⟩ | ⟨hk, c, hc, hcell⟩
  · exact wpAny_Name (wpAny_loadName_local I.ok.kind hk hn hm fin) hd
  · rcases hk with hk | hk
    · exact wpAny_Name (wpAny_loadName_cell I.ok.kind hk hc hcell fin) hd
    · exact wpAny_Name (wpAny_loadName_free I.ok.kind hk hc hcell fin hcd) hd
theorem pe_int {i j pos} : PE X (.Constant (.int i) j pos) (tC (.int i)) := fun _ _ _ H _ I h => wpAny_Constant_int ⟨.int i, H, I.tok _, ⟨_, rfl⟩, h⟩
theorem pe_bl {b j pos} : PE X (.Constant (.bool b) j pos) (tC (.bl b)) := fun _ _ _ H _ I h => Constant_bool ⟨.bl b, H, I, rfl, h⟩
theorem pe_str {x j pos} : PE X (.Constant (.str x) j pos) (tC (.str x)) := fun _ _ _ H _ I h => Calls.Constant_str ⟨.str x, H, I.tok _, ⟨_, rfl⟩, h⟩
def Gl (X : Cx) (x : Str) : Prop := X.env.kindOf x = some .globalImplicit
theorem ld_glob {E : Value → Shared → Prop} {pins : List (Addr × Obj)} {s : Shared} {σ : St} {H : Hp} {x : Str} {u : Value} {pos : Pos} {Q : Value → Shared → Prop} (I : Inv X pins σ H s) (hg : Gl X x) (hm : X.mg x = some u) (h : Q u s)
    (hd : (x == ("__debug__" : Str)) = false := by decide) : wpAny (model X.prog X.w) X.A (eval (.Name x pos) X.env) Q E s :=
  Calls.Name_function_global I.ok.kind hg (Calls.loadGlobal_global (by rw [I.ok.glob]; exact I.mod.glob.keeps I.bk) hm h) hd
theorem ld_blt {E : Value → Shared → Prop} {pins : List (Addr × Obj)} {s : Shared} {σ : St} {H : Hp} {x : Str} {u : Value} {pos : Pos} {Q : Value → Shared → Prop} (I : Inv X pins σ H s) (hg : Gl X x) (hm : X.mg x = none) (hv : bootBuiltins x = some u) (h : Q u s)
    (hn : x ≠ "__name__" := by decide) (hd : (x == ("__debug__" : Str)) = false := by decide) : wpAny (model X.prog X.w) X.A (eval (.Name x pos) X.env) Q E s := by
  obtain ⟨mb, h1, h2⟩ := I.mod.blt
  exact Calls.Name_function_global I.ok.kind hg (Calls.loadGlobal_builtin (by rw [I.ok.glob]; exact I.mod.glob.keeps I.bk) hm (by rw [I.ok.blt]; exact h1.keeps I.bk) ((h2 x hn).trans hv) h) hd
theorem pe_glob {x : Str} {v : V} {u : Value} {pos : Pos} (hg : Gl X x) (hm : X.mg x = some u) (r : RelV v u) (hd : (x == ("__debug__" : Str)) = false := by decide) : PE X (.Name x pos) (tC v) :=
  fun _ _ _ H _ I h => ld_glob I hg hm ⟨v, H, I, r, h⟩ hd
theorem pe_bltn {x : Str} {v : V} {u : Value} {pos : Pos} (hg : Gl X x) (hm : X.mg x = none) (hv : bootBuiltins x = some u) (r : RelV v u) (hn : x ≠ "__name__" := by decide) (hd : (x == ("__debug__" : Str)) = false := by decide) : PE X (.Name x pos) (tC v) :=
  fun _ _ _ H _ I h => ld_blt I hg hm hv ⟨v, H, I, r, h⟩ hn hd
variable {a b : Expr} {ta tb : TE} {pos : Pos}
def PC (X : Cx) (op : CmpOp) (a b : Expr) (t : TE) : Prop :=
  ∀ (pins : List (Addr × Obj)) (s : Shared) (σ : St) (H : Hp) (Q : VK), Inv X pins σ H s → t σ H Q →
    wpAny (model X.prog X.w) X.A (eval a X.env) (fun v s₁ => wpAny (model X.prog X.w) X.A (eval b X.env) (fun u s₂ => wpAny (model X.prog X.w) X.A (compareOp op v u) (EP X pins σ Q) X.xe s₂) X.xe s₁) X.xe s
def tIsN (ta : TE) : TE := fun σ H Q => ta σ H fun x H1 => Q (.bl (decide (x = .non))) H1
def tNotN (ta : TE) : TE := fun σ H Q => ta σ H fun x H1 => Q (.bl (!decide (x = .non))) H1
def tB (t : TE) : TT := fun σ H Q => t σ H fun x H1 => ∃ c, x = .bl c ∧ Q c H1
theorem pt_cmp {op : CmpOp} {t : TE} (h : PC X op a b t) (h1 : behindInMarks op b = false := by first | exact nobehind _ (by decide) (by decide) | rfl) : PT X (.Compare a [op] [b] pos) (tB t) := by
  intro pins s σ H Q I hw
  refine wpAny_isTrue_Compare1 (thn (h pins s σ H _ I hw) fun v s1 h1 => thn h1 fun u s2 h2 => thn h2 fun c s3 ⟨x, H1, I1, r1, q1⟩ => ?_) h1
  obtain ⟨d, rfl, q⟩ := q1
  cases r1
  exact wpAny_truthy_bool ⟨H1, I1, q⟩
theorem pt_val {e : Expr} {t : TE} (h : PE X e t) (he : ∀ whole, isTrue e X.env whole = (do let v ← whole; standAt e.pos; holding [v] (truthy v)) := by intro _; rfl) : PT X e (tB t) := by
  intro pins s σ H Q I hw
  refine isTrue_plain (thnE (h pins s σ H _ I hw) fun v s1 x H1 I1 r1 q1 => ?_) (he _)
  obtain ⟨d, rfl, q⟩ := q1
  cases r1
  exact wpAny_truthy_bool ⟨H1, I1, q⟩
variable {tA tB' : TT} {rest : List Expr}
def tAnd (t u : TT) : TT := fun σ H Q => t σ H fun c H1 => if c = true then u σ H1 Q else Q false H1
def tOr (t u : TT) : TT := fun σ H Q => t σ H fun c H1 => if c = true then Q true H1 else u σ H1 Q
def tNot (t : TT) : TT := fun σ H Q => t σ H fun c H1 => Q (!c) H1
theorem pw_or1 (ha : PT X a tA) : PW X (.BoolOp .Or [a] pos) tA := by
  intro wh pins s σ H Q I h
  refine isTrue_or (thn (ha pins s σ H Q I h) fun c s1 e => ?_)
  cases c with
  | false => exact isTrue_or_nil e
  | true => exact e
theorem pw_or (ha : PT X a tA) (hb : PW X (.BoolOp .Or (b :: rest) pos) tB') : PW X (.BoolOp .Or (a :: b :: rest) pos) (tOr tA tB') := by
  intro wh pins s σ H Q I h
  refine isTrue_or (thnT (ha pins s σ H _ I h) fun c s1 H1 I1 q1 => ?_)
  cases c with
  | true => exact ⟨H1, I1, q1⟩
  | false => exact hb wh pins s1 σ H1 Q I1 q1
theorem pt_not (ha : PT X a tA) : PT X (.UnaryOp .Not a pos) (tNot tA) := by
  intro pins s σ H Q I h
  exact isTrue_not (ha pins s σ H (fun c H1 => Q (!c) H1) I h)
def tAndV (ta tb : TE) : TE := fun σ H Q => ta σ H fun x H1 => ∃ c, x = .bl c ∧ if c = true then tb σ H1 Q else Q (.bl false) H1
def tOrV (ta tb : TE) : TE := fun σ H Q => ta σ H fun x H1 => ∃ c, x = .bl c ∧ if c = true then Q (.bl true) H1 else tb σ H1 Q
def tNotV (ta : TE) : TE := fun σ H Q => ta σ H fun x H1 => ∃ c, x = .bl c ∧ Q (.bl (!c)) H1
theorem pe_one {op} {t : TE} (h : PE X a t) : PE X (.BoolOp op [a] pos) t := fun pins s σ H Q I hw => BoolOp_one (h pins s σ H Q I hw)
theorem pe_and (ha : PE X a ta) (hb : PE X (.BoolOp .And (b :: rest) pos) tb) : PE X (.BoolOp .And (a :: b :: rest) pos) (tAndV ta tb) := by
  intro pins s σ H Q I h
  refine BoolOp_and (thnE (ha pins s σ H _ I h) fun v s1 x H1 I1 r1 q1 => ?_)
  obtain ⟨c, rfl, q1⟩ := q1
  cases r1
  refine wpAny_truthy_bool ?_
  cases c with
  | true => exact hb pins s1 σ H1 Q I1 q1
  | false => exact ⟨.bl false, H1, I1, rfl, q1⟩
theorem pe_or (ha : PE X a ta) (hb : PE X (.BoolOp .Or (b :: rest) pos) tb) : PE X (.BoolOp .Or (a :: b :: rest) pos) (tOrV ta tb) := by
  intro pins s σ H Q I h
  refine BoolOp_or (thnE (ha pins s σ H _ I h) fun v s1 x H1 I1 r1 q1 => ?_)
  obtain ⟨c, rfl, q1⟩ := q1
  cases r1
  refine wpAny_truthy_bool ?_
  cases c with
  | false => exact hb pins s1 σ H1 Q I1 q1
  | true => exact ⟨.bl true, H1, I1, rfl, q1⟩
theorem pe_not (ha : PE X a ta) : PE X (.UnaryOp .Not a pos) (tNotV ta) := by
  intro pins s σ H Q I h
  refine UnaryOp_ (thnE (ha pins s σ H _ I h) fun v s1 x H1 I1 r1 q1 => ?_)
  obtain ⟨c, rfl, q1⟩ := q1
  cases r1
  exact not_of (wpAny_truthy_bool ⟨.bl (!c), H1, I1, rfl, q1⟩)
def tIf (t : TT) (ta tb : TE) : TE := fun σ H Q => t σ H fun c H1 => if c = true then ta σ H1 Q else tb σ H1 Q
theorem pe_ifExp {c : Expr} (hc : PT X c tA) (ha : PE X a ta) (hb : PE X b tb) : PE X (.IfExp c a b pos) (tIf tA ta tb) := by
  intro pins s σ H Q I h
  refine wpAny_IfExp (thnT (hc pins s σ H _ I h) fun d s1 H1 I1 q1 => ?_)
  cases d with
  | true => exact ha pins s1 σ H1 Q I1 q1
  | false => exact hb pins s1 σ H1 Q I1 q1
end
end L2
namespace L2
open PySem PySem.Spec PyProof.Rows
def SqL (K : PySem.W.Frag) (H : Hp) (a : Addr) (xs : List V) : Prop :=
  Rd H a (.lst xs) ∨
    ∃ (o : Obj) (its : Array Value) (n : Nat), K.lookup a = some o ∧ o.cls = .type "list" ∧ o.dict = none ∧ o.data = .seq its n ∧ its.size ≤ sizeLine ∧ Vals xs its.toList
def SqT (K : PySem.W.Frag) (H : Hp) (a : Addr) (xs : List V) : Prop :=
  Rd H a (.tup xs) ∨
    ∃ (o : Obj) (its : Array Value) (n : Nat), K.lookup a = some o ∧ o.cls = .type "tuple" ∧ o.data = .seq its n ∧ its.size ≤ sizeLine ∧ Vals xs its.toList
def absV : Value → Option V
  | .none => some .non
  | .bool b => some (.bl b)
  | .int i _ => some (.int i)
  | .str x _ => some (.str x)
  | .bytes b _ => some (.byt b)
  | .float b _ => some (.flt b)
  | .ref a => some (.ref a)
  | .type n => some (.ty n)
  | _ => none
theorem RelV.abs {x : V} {u : Value} (r : RelV x u) : absV u = some x := by
  cases x with
  | non => cases r; rfl
  | bl _ => cases r; rfl
  | int _ => obtain ⟨t, rfl⟩ := r; rfl
  | str _ => obtain ⟨t, rfl⟩ := r; rfl
  | byt _ => obtain ⟨t, rfl⟩ := r; rfl
  | flt _ => obtain ⟨t, rfl⟩ := r; rfl
  | ref _ => cases r; rfl
  | ty _ => cases r; rfl
theorem RelV.inj {x y : V} {u : Value} (r : RelV x u) (q : RelV y u) : x = y := Option.some.inj (r.abs.symm.trans q.abs)
theorem Vals.inj {xs ys : List V} {us : List Value} (h : Vals xs us) (h2 : Vals ys us) : xs = ys := by
  induction h generalizing ys with
  | nil => cases h2; rfl
  | cons r _ ih => cases h2 with | cons r2 t2 => rw [r.inj r2, ih t2]
section
variable {X : Cx} {pins : List (Addr × Obj)} {σ : St} {H : Hp} {s : Shared} {a : Addr} {xs ys : List V}
theorem SqL.of {K : PySem.W.Frag} (h : H a = some (.lst xs)) : SqL K H a xs := .inl (.inl h)
theorem SqT.of {K : PySem.W.Frag} (h : H a = some (.tup xs)) : SqT K H a xs := .inl (.inl h)
theorem Inv.list (I : Inv X pins σ H s) (h : SqL X.K H a xs) : ∃ its : List Value, Vals xs its ∧ PlainL s.heap a its.toArray ∧ xs.length ≤ sizeLine := by
  rcases h with h | ⟨o, its, n, hk, hc, hd, hs, hz, r⟩
  · obtain ⟨z, its, n, r, e⟩ := h.ok I.hok
    exact ⟨its, r, ⟨_, n, e, rfl, rfl, rfl⟩, z⟩
  · refine ⟨its.toList, r, ⟨o, n, I.kIn a o hk, hc, hd, by simpa using hs⟩, ?_⟩
    have e := r.length
    simp only [Array.length_toList] at e
    omega
theorem Inv.tuple (I : Inv X pins σ H s) (h : SqT X.K H a xs) : ∃ its : List Value, Vals xs its ∧ IsTup s.heap a its.toArray ∧ xs.length ≤ sizeLine := by
  rcases h with h | ⟨o, its, n, hk, hc, hs, hz, r⟩
  · obtain ⟨z, its, r, p⟩ := h.ok I.hok
    exact ⟨its, r, p, z⟩
  · refine ⟨its.toList, r, ⟨o, I.kIn a o hk, hc, n, by simpa using hs⟩, ?_⟩
    have e := r.length
    simp only [Array.length_toList] at e
    omega
theorem Inv.list_inj (I : Inv X pins σ H s) (h : SqL X.K H a xs) (h' : SqL X.K H a ys) : xs = ys := by
  obtain ⟨its, r, ⟨o, n, e, _, _, d⟩, _⟩ := I.list h
  obtain ⟨its', r', ⟨o', n', e', _, _, d'⟩, _⟩ := I.list h'
  rw [e] at e'; cases e'
  rw [d] at d'
  injection d' with d1 _
  have : its = its' := by simpa using congrArg Array.toList d1
  subst this
  exact r.inj r'
theorem Inv.tuple_inj (I : Inv X pins σ H s) (h : SqT X.K H a xs) (h' : SqT X.K H a ys) : xs = ys := by
  obtain ⟨its, r, ⟨o, e, _, n, d⟩, _⟩ := I.tuple h
  obtain ⟨its', r', ⟨o', e', _, n', d'⟩, _⟩ := I.tuple h'
  rw [e] at e'; cases e'
  rw [d] at d'
  injection d' with d1 _
  have : its = its' := by simpa using congrArg Array.toList d1
  subst this
  exact r.inj r'
end
abbrev Cx.wish (X : Cx) (E : Value → Shared → Prop) : Cx := { X with xe := E }
abbrev Cx.nox (X : Cx) : Cx := X.wish fun _ _ => False
theorem Cx.Ok.wish {X : Cx} (ok : X.Ok) (E : Value → Shared → Prop) : (X.wish E).Ok :=
  ⟨ok.mod, ok.kind, ok.glob, ok.blt, ok.above, ok.inj, ok.has, ok.cab, ok.hd, ok.frames, ok.stk, ok.exf, ok.bs, ok.bsz, ok.noex, ok.exfs, ok.funs, ok.frf⟩
theorem Cx.Ok.unwish {X : Cx} {E : Value → Shared → Prop} (ok : (X.wish E).Ok) : X.Ok :=
  ⟨ok.mod, ok.kind, ok.glob, ok.blt, ok.above, ok.inj, ok.has, ok.cab, ok.hd, ok.frames, ok.stk, ok.exf, ok.bs, ok.bsz, ok.noex, ok.exfs, ok.funs, ok.frf⟩
section
variable {X : Cx} {pins : List (Addr × Obj)} {σ : St} {H : Hp} {s : Shared} {E : Value → Shared → Prop}
theorem Inv.wish (I : Inv X pins σ H s) (E : Value → Shared → Prop) : Inv (X.wish E) pins σ H s := ⟨I.ok.wish E, I.os, I.bare, I.base, I.loc, I.cell, I.free, I.freeC, I.pin, I.hok, I.len⟩
theorem Inv.unwish (I : Inv (X.wish E) pins σ H s) : Inv X pins σ H s := ⟨I.ok.unwish, I.os, I.bare, I.base, I.loc, I.cell, I.free, I.freeC, I.pin, I.hok, I.len⟩
theorem SP.unwish {D : Ends} {f : Flow} {s' : Shared} (h : SP (X.wish E) pins D f s') : SP X pins D f s' := by
  cases f with
  | next => obtain ⟨σ', H', I, q⟩ := h; exact ⟨σ', H', I.unwish, q⟩
  | brk => obtain ⟨σ', H', I, q⟩ := h; exact ⟨σ', H', I.unwish, q⟩
  | cont => obtain ⟨σ', H', I, q⟩ := h; exact ⟨σ', H', I.unwish, q⟩
  | ret u => obtain ⟨v, σ', H', I, r, q⟩ := h; exact ⟨v, σ', H', I.unwish, r, q⟩
theorem PSs.nox {st : List Stmt} {t : TS} (h : PSs X.nox st t) : PSs X st t := fun pins s σ H D I hw =>
  wpAny_mono (h pins s σ H D (I.wish _) hw) (fun _ _ q => q.unwish) fun _ _ z => False.elim z
end
section
variable {X : Cx} {st : Stmt} {rest : List Stmt} {t u : TS} {e : Expr} {te : TE} {pos : Pos}
def tNext : TS := fun D σ H => D.nx σ H
def tSeq (t u : TS) : TS := fun D σ H => t { D with nx := u D } σ H
theorem pss_nil : PSs X [] tNext := fun _ _ σ H _ I h => wpAny_execs_nil ⟨σ, H, I, h⟩
theorem pss_cons (h1 : PS X st t) (h2 : PSs X rest u) : PSs X (st :: rest) (tSeq t u) := by
  intro pins s σ H D I h
  refine wpAny_execs_cons (thn (h1 pins s σ H { D with nx := u D } I h) fun f s1 q => ?_)
  cases f with
  | next =>
    obtain ⟨σ', H', I', q⟩ := q
    exact h2 pins s1 σ' H' D I' q
  | ret v => exact q
  | brk => exact q
  | cont => exact q
theorem pss_one (h1 : PS X st t) : PSs X [st] t := by
  intro pins s σ H D I h
  refine wpAny_execs_cons (thn (h1 pins s σ H D I h) fun f s1 q => ?_)
  cases f with
  | next => exact wpAny_execs_nil q
  | ret v => exact q
  | brk => exact q
  | cont => exact q
theorem Inv.quiet {pins : List (Addr × Obj)} {σ : St} {H : Hp} {s : Shared} (I : Inv X pins σ H s) : interactive X.env = false := by simp [interactive, I.ok.kind]
def tDrop (te : TE) : TS := fun D σ H => te σ H fun _ H1 => D.nx σ H1
theorem ps_expr (he : PE X e te) (hs : swapsWith e none pos.line X.env = pure false := by rfl) : PS X (.Expr e pos) (tDrop te) := by
  intro pins s σ H D I h
  exact wpAny_Expr_any (thnE (he pins s σ H _ I h) fun v s1 x H1 I1 r1 q1 => ⟨σ, H1, I1, q1⟩) I.quiet hs
def tRet (te : TE) : TS := fun D σ H => te σ H D.rt
theorem ps_ret (he : PE X e te) : PS X (.Return (some e) pos) (tRet te) := by
  intro pins s σ H D I h
  exact wpAny_Return_some (thnE (he pins s σ H _ I h) fun v s1 x H1 I1 r1 q1 => ⟨x, σ, H1, I1, r1, q1⟩)
def tRetN : TS := fun D _ H => D.rt .non H
def tIfS (c : TT) (t u : TS) : TS := fun D σ H => c σ H fun b H1 => if b = true then t D σ H1 else u D σ H1
theorem ps_if {c : Expr} {a b : List Stmt} {tc : TT} (hc : PT X c tc) (ha : PSs X a t) (hb : PSs X b u) : PS X (.If c a b pos) (tIfS tc t u) := by
  intro pins s σ H D I h
  refine wpAny_If (thnT (hc pins s σ H _ I h) fun d s1 H1 I1 q1 => ?_)
  cases d with
  | true => exact ha pins s1 σ H1 D I1 q1
  | false => exact hb pins s1 σ H1 D I1 q1
def tNever : TS := fun _ _ _ => False
theorem ps_never : PS X st tNever := fun _ _ _ _ _ _ h => h.elim
end
abbrev TG := V → St → Hp → (St → Hp → Prop) → Prop
abbrev TGs := List V → St → Hp → (St → Hp → Prop) → Prop
def PG (X : Cx) (target : Expr) (t : TG) : Prop :=
  ∀ (pins : List (Addr × Obj)) (s : Shared) (σ : St) (H : Hp) (v : V) (u : Value) (Q : St → Hp → Prop), Inv X pins σ H s → RelV v u → t v σ H Q →
    wpAny (model X.prog X.w) X.A (assign target X.env u) (fun _ s' => ∃ σ' H', Inv X pins σ' H' s' ∧ Q σ' H') X.xe s
def PGs (X : Cx) (ts : List Expr) (t : TGs) : Prop :=
  ∀ (pins : List (Addr × Obj)) (s : Shared) (σ : St) (H : Hp) (vs : List V) (us : List Value) (Q : St → Hp → Prop), Inv X pins σ H s → Vals vs us → t vs σ H Q →
    wpAny (model X.prog X.w) X.A (assignInOrder ((assignEach ts X.env).map (·.2)) us) (fun _ s' => ∃ σ' H', Inv X pins σ' H' s' ∧ Q σ' H') X.xe s
abbrev TSet := V → V → V → Hp → (Hp → Prop) → Prop
abbrev TIp := V → V → Hp → VK → Prop
section
variable {X : Cx} {pos : Pos}
def gName (i : Nat) : TG := fun v σ H Q => Q (σ.set i (some v)) H
theorem pg_name {i : Nat} {x : Str} (hN : X.N.Nodup) (hi : X.N[i]? = some x) (hx : Loc X.env.scope x) (hf : X.fn x = true ∨ X.env.scope.names.lookup x = some .local := by first | exact .inl rfl | exact .inr rfl | assumption) : PG X (.Name x pos) (gName i) := by
  intro pins s σ H v u Q I r h
  exact wpAny_assign_Name (store_ok I hN hi hx r (fun s' I' => ⟨_, H, I', h⟩) hf)
def gNil : TGs := fun vs σ H Q => vs = [] ∧ Q σ H
def gCons (t : TG) (u : TGs) : TGs := fun vs σ H Q => ∃ v r, vs = v :: r ∧ t v σ H fun σ' H' => u r σ' H' Q
theorem pgs_nil : PGs X [] gNil := by
  intro pins s σ H vs us Q I r h
  obtain ⟨e, h⟩ := h
  subst e
  cases r
  exact assignInOrder_nil ⟨σ, H, I, h⟩
theorem pgs_cons {e : Expr} {es : List Expr} {t : TG} {u : TGs} (h1 : PG X e t) (h2 : PGs X es u)
    (hs : (assignEach (e :: es) X.env).map (·.2) = assign e X.env :: (assignEach es X.env).map (·.2) := by rfl) : PGs X (e :: es) (gCons t u) := by
  intro pins s σ H vs us Q I r h
  obtain ⟨v, vr, e1, h⟩ := h
  subst e1
  cases r with
  | cons r rr =>
    rw [hs]
    refine assignInOrder_cons (thn (h1 pins s σ H _ _ _ I r h) fun _ s1 ⟨σ1, H1, I1, q1⟩ => ?_)
    exact h2 pins s1 σ1 H1 _ _ Q I1 rr q1
def gTup (K : PySem.W.Frag) (n : Nat) (t : TGs) : TG := fun v σ H Q => ∃ a xs, v = .ref a ∧ SqT K H a xs ∧ xs.length = n ∧ t xs σ H Q
theorem pg_tup {es : List Expr} {k : Nat} {t : TGs} {n : Nat} (hc : X.calm = true) (h : PGs X es t)
    (hn : (assignEach es X.env).length = n := by rfl) (hst : (assignEach es X.env).findIdx? (·.1) = none := by rfl) : PG X (.Tuple es k pos) (gTup X.K n t) := by
  intro pins s σ H v u Q I r hw
  obtain ⟨a, xs, e1, hq, hl, hw⟩ := hw
  subst e1
  cases r
  obtain ⟨its, rv, ht, hz⟩ := I.tuple hq
  refine assign_Tuple_tuple (I.ok.hd hc) ht (by simp [hn, ← hl, rv.length]) hst fun h' hx => ?_
  have I1 : Inv X pins σ H { s with heap := h' } := I.kept (t' := s.toks) fun b o e => hx b o (Nat.ne_of_lt (Heap.lt_size e)) e
  exact h pins _ σ H xs _ Q I1 (by simpa using rv) hw
def gSub (to ti : TE) (t : TSet) : TG := fun v σ H Q => to σ H fun o H1 => ti σ H1 fun i H2 => t o i v H2 fun H3 => Q σ H3
def tAsg (te : TE) (g : TG) : TS := fun D σ H => te σ H fun x H1 => g x σ H1 D.nx
theorem ps_asg {tg e : Expr} {te : TE} {g : TG} (he : PE X e te) (hg : PG X tg g) (hs : swapsWithSole [tg] e pos.line X.env = pure false := by rfl) (hw : swappedStores [tg] e X.env = pure none := by rfl)
    (h1 : (assignEach [tg] X.env).map (·.2) = [assign tg X.env] := by rfl) : PS X (.Assign [tg] e pos) (tAsg te g) := by
  intro pins s σ H D I h
  refine wpAny_Assign_stores (thnE (he pins s σ H _ I h) fun v s1 x H1 I1 r1 q1 => ?_) hs hw
  rw [h1]
  exact thn (hg pins s1 σ H1 x v _ I1 r1 q1) fun _ s2 q => q
theorem ps_set {i : Nat} {x : Str} {e : Expr} {te : TE} {pos' : Pos} (hN : X.N.Nodup) (hi : X.N[i]? = some x) (hx : Loc X.env.scope x) (he : PE X e te) (hs : swapsWith e (some (.Name x pos')) pos.line X.env = pure false := by rfl) (hf : X.fn x = true ∨ X.env.scope.names.lookup x = some .local := by first | exact .inl rfl | exact .inr rfl | assumption) :
    PS X (.Assign [.Name x pos'] e pos) (tAsg te (gName i)) := by
  intro pins s σ H D I h
  refine wpAny_Assign_Name (thnE (he pins s σ H _ I h) fun v s1 y H1 I1 r1 q1 => ?_) hs
  exact store_ok I1 hN hi hx r1 (fun s2 I2 => ⟨_, H1, I2, q1⟩) hf
def tAug (i : Nat) (te : TE) (ti : TIp) : TS := fun D σ H => ∃ x, σ[i]? = some (some x) ∧ te σ H fun y H1 => ti x y H1 fun z H2 => D.nx (σ.set i (some z)) H2
def tAugS (to ti te : TE) (tget : V → V → Hp → VK → Prop) (tip : TIp) (tset : TSet) : TS := fun D σ H => to σ H fun o H1 => ti σ H1 fun i H2 => tget o i H2 fun x H3 => te σ H3 fun y H4 => tip x y H4 fun z H5 => tset o i z H5 fun H6 => D.nx σ H6
def ipI (f : Int → Int → Int) : TIp := fun x y H Q => ∃ i j, x = .int i ∧ y = .int j ∧ Q (.int (f i j)) H
end
section
variable {X : Cx} {pos : Pos}
def tWhile (c : TT) (tb : TS) : TS := fun D σ H => ∃ W : Nat → St → Hp → Prop, (∃ m, W m σ H) ∧ ∀ m σ H, W m σ H →
  c σ H fun b H1 => if b = true then ∃ N : St → Hp → Prop, (∀ σ' H', N σ' H' → ∃ m', m' < m ∧ W m' σ' H') ∧ tb { D with nx := N, ct := N, bk := D.nx } σ H1 else D.nx σ H1
theorem ps_while {c : Expr} {body : List Stmt} {tc : TT} {tb : TS} (hp : PassesOwn (model X.prog X.w) X.A X.env X.xe) (hc : PT X c tc) (hb : PSs X body tb) : PS X (.While c body [] pos) (tWhile tc tb) := by
  intro pins s σ H D I h
  obtain ⟨W, ⟨m0, w0⟩, turn⟩ := h
  refine wpAny_While (codeAny_whileLoop (fun n s' => ∃ σ' H', Inv X pins σ' H' s' ∧ W n σ' H') ?_ m0 ⟨σ, H, I, w0⟩)
  rintro n s1 ⟨σ1, H1, I1, w1⟩
  refine wpAny_passesOwn hp (thnT (hc pins s1 σ1 H1 _ I1 (turn n σ1 H1 w1)) fun b s2 H2 I2 q2 => ?_)
  cases b with
  | true =>
    obtain ⟨N, hN, q2⟩ := q2
    rw [if_pos rfl]
    refine wpAny_passesOwn hp (thn (hb pins s2 σ1 H2 _ I2 q2) fun f s3 q3 => ?_)
    cases f with
    | next =>
      obtain ⟨σ3, H3, I3, n3⟩ := q3
      obtain ⟨m', hm, w3⟩ := hN σ3 H3 n3
      exact ⟨m', hm, σ3, H3, I3, w3⟩
    | cont =>
      obtain ⟨σ3, H3, I3, n3⟩ := q3
      obtain ⟨m', hm, w3⟩ := hN σ3 H3 n3
      exact ⟨m', hm, σ3, H3, I3, w3⟩
    | brk => exact q3
    | ret v => exact q3
  | false =>
    rw [if_neg Bool.false_ne_true]
    exact wpAny_execs_nil ⟨σ1, H2, I2, q2⟩
end
structure It where
  go : Nat → Hp → Prop
  yld : Nat → Hp → V → Hp → Prop
  stop : Nat → Hp → Prop
def FpOk (X : Cx) (pins : List (Addr × Obj)) (H : Hp) (b : Addr) : Prop :=
  H b = none ∧ b ≠ X.env.locals ∧ b ∉ X.fs ∧ (b ∈ X.ex ∨ X.s₀.heap.objs.size ≤ b) ∧ (∀ x c, X.env.cells.lookup x = some c → c ≠ b) ∧ ∀ p ∈ X.pn ++ pins, p.1 ≠ b
theorem Inv.fpOk {X : Cx} {pins : List (Addr × Obj)} {σ : St} {H H' : Hp} {s : Shared} {b : Addr} (I : Inv X pins σ H s) (hb : s.heap.objs.size ≤ b) (hn : H' b = none) : FpOk X pins H' b := by
  refine ⟨hn, Nat.ne_of_gt (Nat.lt_of_lt_of_le I.lt hb), I.nofs hb, .inr (Nat.le_trans I.sz hb), fun x c e z => ?_, fun p hp z => ?_⟩
  · obtain ⟨v, q⟩ := I.cell x c e
    exact absurd (Nat.lt_of_lt_of_le q.lt (by rw [z]; exact hb)) (Nat.lt_irrefl _)
  · exact absurd (Nat.lt_of_lt_of_le (Heap.lt_size (I.pin p hp).1) (by rw [z]; exact hb)) (Nat.lt_irrefl _)
structure Turn (P : Program) (w : World) (K : PySem.W.Frag) (tg : Expr) (J : It) (fp : List Addr) (it : Addr) (tn : Nat → Heap → Prop) : Prop where
  mem : it ∈ fp
  obj : ∀ i h, tn i h → ∀ b ∈ fp, ∃ o, h.get? b = some o ∧ ∀ v, o.data ≠ .cell v
  keep : ∀ i h h', tn i h → (∀ b ∈ fp, ∀ o, h.get? b = some o → h'.get? b = some o) → tn i h'
  item : ∀ (X : Cx), X.prog = P → X.w = w → X.K = K → X.calm = true → ∀ (i : Nat) (pins : List (Addr × Obj)) (s : Shared) (σ : St) (H : Hp) (E : Value → Shared → Prop), Inv X pins σ H s → (∀ b ∈ fp, FpOk X pins H b) → tn i s.heap → J.go i H →
    wpAny (model P w) X.A (pyNext (.ref it)) (fun r s1 => ∃ u, r = some u ∧
      wpAny (model P w) X.A (letOwnedTupleGo tg (.ref it) u) (fun _ s2 => ∃ x H', Inv X pins σ H' s2 ∧ RelV x u ∧ J.yld i H x H' ∧ tn (i + 1) s2.heap ∧ ∀ b ∈ fp, H' b = none) E s1) E s
  done : ∀ (X : Cx), X.prog = P → X.w = w → X.K = K → X.calm = true → ∀ (i : Nat) (pins : List (Addr × Obj)) (s : Shared) (σ : St) (H : Hp) (E : Value → Shared → Prop), Inv X pins σ H s → (∀ b ∈ fp, FpOk X pins H b) → tn i s.heap → J.stop i H →
    wpAny (model P w) X.A (pyNext (.ref it)) (fun r s1 => r = none ∧ Inv X pins σ H s1) E s
  self : ∀ (A : Around) (i : Nat) (s : Shared) (Q : Value → Shared → Prop) (E : Value → Shared → Prop), tn i s.heap → Q (.ref it) s → wpAny (model P w) A (pyIter (.ref it)) Q E s
abbrev TI := St → Hp → (It → Hp → Prop) → Prop
def PIE (X : Cx) (pins : List (Addr × Obj)) (σ : St) (tg : Expr) (R : It → Hp → Prop) (itv : Value) (s2 : Shared) : Prop :=
  ∃ (it : Addr) (fp : List Addr) (tn : Nat → Heap → Prop) (J : It) (H' : Hp), itv = .ref it ∧ Inv X pins σ H' s2 ∧ Turn X.prog X.w X.K tg J fp it tn ∧ tn 0 s2.heap ∧ (∀ b ∈ fp, FpOk X pins H' b) ∧ R J H'
def PI (X : Cx) (tg iter : Expr) (wi : TI) : Prop :=
  ∀ (pins : List (Addr × Obj)) (s : Shared) (σ : St) (H : Hp) (R : It → Hp → Prop), Inv X pins σ H s → wi σ H R →
    wpAny (model X.prog X.w) X.A (eval iter X.env) (fun v s1 => wpAny (model X.prog X.w) X.A (pyIter v) (PIE X pins σ tg R) X.xe s1) X.xe s
theorem go_of {M : Model} {A : Around} {E : Value → Shared → Prop} {s : Shared} {tg : Expr} {it : Addr} {u : Value} {o : Obj} {n : String} {vs : Array Value} {Q : Unit → Shared → Prop} (ho : s.heap.get? it = some o) (hc : o.cls = .type n) (hd : o.data = .fields vs)
    (hn : ["enumerate", "zip", "dict_itemiterator", "dict_reverseitemiterator", "odict_iterator", "itertools.zip_longest", "itertools.pairwise"].contains n = false) (hQ : Q () s) : wpAny M A (letOwnedTupleGo tg (.ref it) u) Q E s := by
  unfold letOwnedTupleGo
  cases tg <;> first
    | exact wpAny_pure hQ
    | (cases u <;> first
        | exact wpAny_pure hQ
        | (refine wpAny_bind (wpAny_load ho ?_)
           rw [hc, hd]
           show wpAny M A (if (["enumerate", "zip", "dict_itemiterator", "dict_reverseitemiterator", "odict_iterator", "itertools.zip_longest", "itertools.pairwise"].contains n && vs[0]? == some (rawInt _)) = true then _ else _) Q E s
           rw [if_neg (by intro h; rw [hn, Bool.false_and] at h; cases h)]
           exact wpAny_pure hQ))
def Itl (K : PySem.W.Frag) (a : Addr) : It :=
  ⟨fun i H => ∃ xs x, SqL K H a xs ∧ xs[i]? = some x, fun i H x H' => H' = H ∧ ∀ xs, SqL K H a xs → xs[i]? = some x, fun i H => ∃ xs, SqL K H a xs ∧ xs.length ≤ i⟩
def Itt (K : PySem.W.Frag) (a : Addr) : It :=
  ⟨fun i H => ∃ xs x, SqT K H a xs ∧ xs[i]? = some x, fun i H x H' => H' = H ∧ ∀ xs, SqT K H a xs → xs[i]? = some x, fun i H => ∃ xs, SqT K H a xs ∧ xs.length ≤ i⟩
def Itr (lo : Int) (n : Nat) : It := ⟨fun i _ => i < n, fun i H x H' => H' = H ∧ x = .int (lo + i), fun i _ => n ≤ i⟩
theorem turn_list {P : Program} {w : World} {K : PySem.W.Frag} {tg : Expr} (a it : Addr) : Turn P w K tg (Itl K a) [it] it (fun i h => h.IsListIter it a i) where
  mem := by simp
  obj := fun i h st b hb => by
    have e : b = it := by simpa using hb
    subst e
    obtain ⟨o, e, c, d⟩ := st
    exact ⟨o, e, fun v z => by rw [d] at z; cases z⟩
  keep := fun i h h' st k => st.at fun o e => k it (by simp) o e
  item := by
    intro X hP hw hK hc i pins s σ H E I hf st hg
    subst hP hw hK
    obtain ⟨xs, x, hq, hx⟩ := hg
    obtain ⟨its, rv, p, hz⟩ := I.list hq
    obtain ⟨u, hu, ru⟩ := rv.get hx
    obtain ⟨f0, f1, f2, f3, f4, f5⟩ := hf it (by simp)
    refine wpAny_pyNext_list_item st p.isList (x := u) (by simpa using hu) fun h' st' sb => ?_
    have I1 : Inv X pins σ H { s with heap := h' } := I.turned (t' := s.toks) (fun b o hb e => (sb.2 b hb).trans e) f0 f1 f3 f4 f5
    obtain ⟨o, e, c, d⟩ := id st'
    exact ⟨u, rfl, go_of (s := { s with heap := h' }) e c d (by decide) ⟨x, H, I1, ru, ⟨rfl, fun ys hy => by rw [I.list_inj hy hq]; exact hx⟩, st', fun b hb => (hf b hb).1⟩⟩
  done := by
    intro X hP hw hK hc i pins s σ H E I hf st hg
    subst hP hw hK
    obtain ⟨xs, hq, hx⟩ := hg
    obtain ⟨its, rv, p, hz⟩ := I.list hq
    obtain ⟨f0, f1, f2, f3, f4, f5⟩ := hf it (by simp)
    have hl := rv.length
    exact wpAny_pyNext_list_end (I.ok.hd hc) st p.isList (by simp; omega) fun h' eb => ⟨rfl, I.turned (t' := s.toks) (fun b o hb e => eb b o hb e) f0 f1 f3 f4 f5⟩
  self := fun _ _ _ _ _ st h => wpAny_pyIter_listiter st h
theorem turn_tuple {P : Program} {w : World} {K : PySem.W.Frag} {tg : Expr} (a it : Addr) : Turn P w K tg (Itt K a) [it] it (fun i h => h.IsTupleIter it a i) where
  mem := by simp
  obj := fun i h st b hb => by
    have e : b = it := by simpa using hb
    subst e
    obtain ⟨o, e, c, d⟩ := st
    exact ⟨o, e, fun v z => by rw [d] at z; cases z⟩
  keep := fun i h h' st k => st.at fun o e => k it (by simp) o e
  item := by
    intro X hP hw hK hc i pins s σ H E I hf st hg
    subst hP hw hK
    obtain ⟨xs, x, hq, hx⟩ := hg
    obtain ⟨its, rv, p, hz⟩ := I.tuple hq
    obtain ⟨u, hu, ru⟩ := rv.get hx
    obtain ⟨f0, f1, f2, f3, f4, f5⟩ := hf it (by simp)
    refine wpAny_pyNext_tuple_item st (show s.heap.IsTuple a its.toArray from p) (x := u) (by simpa using hu) fun h' st' sb => ?_
    have I1 : Inv X pins σ H { s with heap := h' } := I.turned (t' := s.toks) (fun b o hb e => (sb.2 b hb).trans e) f0 f1 f3 f4 f5
    obtain ⟨o, e, c, d⟩ := id st'
    exact ⟨u, rfl, go_of (s := { s with heap := h' }) e c d (by decide) ⟨x, H, I1, ru, ⟨rfl, fun ys hy => by rw [I.tuple_inj hy hq]; exact hx⟩, st', fun b hb => (hf b hb).1⟩⟩
  done := by
    intro X hP hw hK hc i pins s σ H E I hf st hg
    subst hP hw hK
    obtain ⟨xs, hq, hx⟩ := hg
    obtain ⟨its, rv, p, hz⟩ := I.tuple hq
    obtain ⟨f0, f1, f2, f3, f4, f5⟩ := hf it (by simp)
    have hl := rv.length
    exact wpAny_pyNext_tuple_end (I.ok.hd hc) st (show s.heap.IsTuple a its.toArray from p) (by simp; omega) fun h' eb => ⟨rfl, I.turned (t' := s.toks) (fun b o hb e => eb b o hb e) f0 f1 f3 f4 f5⟩
  self := fun _ _ _ _ _ st h => wpAny_pyIter_tupleiter st h
theorem turn_range {P : Program} {w : World} {K : PySem.W.Frag} {tg : Expr} (it : Addr) (lo : Int) (n : Nat) : Turn P w K tg (Itr lo n) [it] it (fun i h => IsRangeIter h it (lo + (i : Nat) * 1) ((n : Int) - (i : Nat)) 1) where
  mem := by simp
  obj := fun i h st b hb => by
    have e : b = it := by simpa using hb
    subst e
    exact ⟨_, st, fun v z => by
      have z' : Data.fields _ = Data.cell v := z
      cases z'⟩
  keep := fun i h h' st k => k it (by simp) _ st
  item := by
    intro X hP hw hK hc i pins s σ H E I hf st hg
    subst hP hw hK
    obtain ⟨f0, f1, f2, f3, f4, f5⟩ := hf it (by simp)
    have W := Walks.range (prog := X.prog) (w := X.w) (I.ok.hd hc) it lo 1 n
    refine W.item i s _ _ hg st fun v h' tk hv st' kk => ?_
    obtain ⟨t, rfl⟩ := hv
    have I1 : Inv X pins σ H { s with heap := h', toks := tk } := I.turned (fun b o hb e => kk b o (by simpa using hb) e) f0 f1 f3 f4 f5
    refine ⟨_, rfl, go_of (s := { s with heap := h', toks := tk }) (n := "range_iterator") st' rfl rfl (by decide) ⟨.int (lo + i), H, I1, ⟨t, ?_⟩, ⟨rfl, rfl⟩, st', fun b hb => (hf b hb).1⟩⟩
    rw [Int.mul_one]
  done := by
    intro X hP hw hK hc i pins s σ H E I hf st hg
    subst hP hw hK
    obtain ⟨f0, f1, f2, f3, f4, f5⟩ := hf it (by simp)
    exact wpAny_pyNext_range_end (I.ok.hd hc) st (by have : n ≤ i := hg; omega) fun h' eb => ⟨rfl, I.turned (t' := s.toks) (fun b o hb e => eb b o hb e) f0 f1 f3 f4 f5⟩
  self := fun _ _ _ _ _ st h => wpAny_pyIter_rangeiter st h
end L2
namespace L2
open PySem PySem.Spec PyProof.Rows
section
variable {X : Cx} {tg : Expr}
def iList (K : PySem.W.Frag) (tl : TE) : TI := fun σ H R => tl σ H fun x H1 => ∃ a, x = .ref a ∧ (∃ xs, SqL K H1 a xs) ∧ R (Itl K a) H1
def iTup (K : PySem.W.Frag) (tl : TE) : TI := fun σ H R => tl σ H fun x H1 => ∃ a, x = .ref a ∧ (∃ xs, SqT K H1 a xs) ∧ R (Itt K a) H1
theorem pi_list {l : Expr} {tl : TE} (hl : PE X l tl) : PI X tg l (iList X.K tl) := by
  intro pins s σ H R I h
  refine thnE (hl pins s σ H _ I h) fun v s1 x H1 I1 r1 q1 => ?_
  obtain ⟨a, e, ⟨xs, hq⟩, q⟩ := q1
  subst e
  cases r1
  obtain ⟨its, rv, p, hz⟩ := I1.list hq
  refine wpAny_pyIter_list p.isList ?_
  refine ⟨s1.heap.objs.size, [s1.heap.objs.size], _, _, H1, rfl, I1.kept (t' := s1.toks) fun b o e => Heap.get?_push_of_some _ e, turn_list a _, ⟨_, Heap.get?_push_size _ rfl, rfl, rfl⟩, fun b hb => ?_, q⟩
  have e : b = s1.heap.objs.size := by simpa using hb
  subst e
  exact I1.fpOk (Nat.le_refl _) (I1.hok.fresh (Nat.le_refl _))
theorem pi_tup {l : Expr} {tl : TE} (hl : PE X l tl) : PI X tg l (iTup X.K tl) := by
  intro pins s σ H R I h
  refine thnE (hl pins s σ H _ I h) fun v s1 x H1 I1 r1 q1 => ?_
  obtain ⟨a, e, ⟨xs, hq⟩, q⟩ := q1
  subst e
  cases r1
  obtain ⟨its, rv, p, hz⟩ := I1.tuple hq
  refine wpAny_pyIter_tuple (show s1.heap.IsTuple a its.toArray from p) ?_
  refine ⟨s1.heap.objs.size, [s1.heap.objs.size], _, _, H1, rfl, I1.kept (t' := s1.toks) fun b o e => Heap.get?_push_of_some _ e, turn_tuple a _, ⟨_, Heap.get?_push_size _ rfl, rfl, rfl⟩, fun b hb => ?_, q⟩
  have e : b = s1.heap.objs.size := by simpa using hb
  subst e
  exact I1.fpOk (Nat.le_refl _) (I1.hok.fresh (Nat.le_refl _))
theorem range_it {pins : List (Addr × Obj)} {σ : St} {H : Hp} {s : Shared} {R : It → Hp → Prop} {E : Value → Shared → Prop} {lo hi : Int} {t u v : Tok} {tk : Nat} (I : Inv X pins σ H s) (h1 : -(2 ^ 62) ≤ lo) (h2 : lo < 2 ^ 62) (h3 : -(2 ^ 62) ≤ hi) (h4 : hi < 2 ^ 62)
    (q : R (Itr lo (hi - lo).toNat) H) : wpAny (model X.prog X.w) X.A (pyIter (.ref s.heap.objs.size)) (PIE X pins σ tg R) E { s with heap := s.heap.push { cls := .type "range", data := .fields #[.int lo t, .int hi u, .int 1 v] }, toks := tk } := by
  refine wpAny_pyIter_range (IsRange.new ..) (small_one h1 h2 h3 h4) ?_
  have I1 : Inv X pins σ H { s with heap := s.heap.push { cls := .type "range", data := .fields #[.int lo t, .int hi u, .int 1 v] }, toks := tk } := I.kept fun b o e => Heap.get?_push_of_some _ e
  refine ⟨(s.heap.push { cls := .type "range", data := .fields #[.int lo t, .int hi u, .int 1 v] }).objs.size, [(s.heap.push { cls := .type "range", data := .fields #[.int lo t, .int hi u, .int 1 v] }).objs.size], _, _, H, rfl,
    I1.kept (t' := tk) fun b o e => Heap.get?_push_of_some _ e, turn_range _ lo (hi - lo).toNat, ?_, fun b hb => ?_, q⟩
  · have e1 : lo + ((0 : Nat) : Int) * 1 = lo := by simp
    have e2 : (((hi - lo).toNat : Nat) : Int) - ((0 : Nat) : Int) = Builtin.Range.rangeSize lo hi 1 := by rw [rangeSize_one]; split <;> omega
    show IsRangeIter _ _ (lo + ((0 : Nat) : Int) * 1) ((((hi - lo).toNat : Nat) : Int) - ((0 : Nat) : Int)) 1
    rw [e1, e2]
    exact Heap.get?_push_size _ rfl
  · have e : b = (s.heap.push { cls := .type "range", data := .fields #[.int lo t, .int hi u, .int 1 v] }).objs.size := by simpa using hb
    subst e
    exact I1.fpOk (Nat.le_refl _) (I1.hok.fresh (Nat.le_refl _))
def iRng1 (ta : TA) : TI := fun σ H R => ta σ H fun vs H1 => ∃ j : Int, vs = [.int j] ∧ -(2 ^ 62) ≤ j ∧ j < 2 ^ 62 ∧ R (Itr 0 j.toNat) H1
def iRng2 (ta : TA) : TI := fun σ H R => ta σ H fun vs H1 => ∃ i j : Int, vs = [.int i, .int j] ∧ (-(2 ^ 62) ≤ i ∧ i < 2 ^ 62 ∧ -(2 ^ 62) ≤ j ∧ j < 2 ^ 62) ∧ R (Itr i (j - i).toNat) H1
theorem pi_range1 {a : Expr} {ta : TA} {p pos : Pos} (hg : Gl X "range") (hm : X.mg "range" = none) (ha : PA X [a] ta) (hs : starEach [a] X.env = [(false, eval a X.env)] := by rfl) : PI X tg (.Call (.Name "range" p) [a] [] pos) (iRng1 ta) := by
  intro pins s σ H R I h
  refine Call_ (ld_blt I hg hm boot_range (PyProof.Rows.callWith_type1 (thnA (ha pos pins s σ H _ I h) fun us s1 vs H1 I1 r1 q1 => ?_) hs rfl))
  obtain ⟨j, e, q1, q2, q⟩ := q1
  subst e
  cases r1 with
  | cons r rr =>
    cases rr
    obtain ⟨t, rfl⟩ := r
    exact call_range_1 (range_it I1 (by omega) (by omega) q1 q2 (by simpa using q))
theorem pi_range2 {a b : Expr} {ta : TA} {p pos : Pos} (hg : Gl X "range") (hm : X.mg "range" = none) (ha : PA X [a, b] ta) (hs : starEach [a, b] X.env = [(false, eval a X.env), (false, eval b X.env)] := by rfl) (hs2 : starEach [b] X.env = [(false, eval b X.env)] := by rfl) :
    PI X tg (.Call (.Name "range" p) [a, b] [] pos) (iRng2 ta) := by
  intro pins s σ H R I h
  refine Call_ (ld_blt I hg hm boot_range (PyProof.Rows.callWith_type1 (thnA (ha pos pins s σ H _ I h) fun us s1 vs H1 I1 r1 q1 => ?_) (by rw [hs, hs2]) (by rw [hs2]; rfl)))
  obtain ⟨i, j, e, ⟨q1, q2, q3, q4⟩, q⟩ := q1
  subst e
  cases r1 with
  | cons r rr =>
    cases rr with
    | cons r' rr =>
      cases rr
      obtain ⟨t, rfl⟩ := r
      obtain ⟨t', rfl⟩ := r'
      exact call_range_2 (range_it I1 q1 q2 q3 q4 q)
def tFor (wi : TI) (g : TG) (tb : TS) : TS := fun D σ H => wi σ H fun J H1 => ∃ W : Nat → Nat → St → Hp → Prop, (∃ m, W 0 m σ H1) ∧ ∀ i m σ H, W i m σ H →
  (J.stop i H ∧ D.nx σ H) ∨ (J.go i H ∧ ∃ N : St → Hp → Prop, (∀ σ' H', N σ' H' → ∃ m', m' < m ∧ W (i + 1) m' σ' H') ∧ ∀ x H', J.yld i H x H' → g x σ H' fun σ2 H2 => tb { D with nx := N, ct := N, bk := D.nx } σ2 H2)
def pinsAt (fp : List Addr) (h : Heap) : List (Addr × Obj) := fp.filterMap fun b => (h.get? b).map fun o => (b, o)
theorem mem_pinsAt {fp : List Addr} {h : Heap} {b : Addr} {o : Obj} (hb : b ∈ fp) (e : h.get? b = some o) : (b, o) ∈ pinsAt fp h := List.mem_filterMap.mpr ⟨b, hb, by rw [e]; rfl⟩
theorem of_pinsAt {fp : List Addr} {h : Heap} {p : Addr × Obj} (hp : p ∈ pinsAt fp h) : p.1 ∈ fp ∧ h.get? p.1 = some p.2 := by
  obtain ⟨b, hb, e⟩ := List.mem_filterMap.mp hp
  cases q : h.get? b with
  | none => rw [q] at e; cases e
  | some o =>
    rw [q] at e
    have e' : (b, o) = p := Option.some.inj e
    subst e'
    exact ⟨hb, q⟩
theorem Inv.pinned {pins : List (Addr × Obj)} {σ : St} {H : Hp} {s : Shared} {fp : List Addr} (I : Inv X pins σ H s) (hf : ∀ b ∈ fp, FpOk X pins H b) (ho : ∀ b ∈ fp, ∃ o, s.heap.get? b = some o ∧ ∀ v, o.data ≠ .cell v) : Inv X (pins ++ pinsAt fp s.heap) σ H s :=
  I.pins_of fun p hp => (List.mem_append.mp hp).elim (fun z => I.pin p (List.mem_append_right _ z)) fun z => by
    obtain ⟨hb, e⟩ := of_pinsAt z
    obtain ⟨f0, f1, f2, _⟩ := hf p.1 hb
    obtain ⟨o, e', d⟩ := ho p.1 hb
    rw [e] at e'; cases e'
    exact ⟨e, f0, f1, f2, d⟩
theorem Inv.unpinned {pins pl : List (Addr × Obj)} {σ : St} {H : Hp} {s : Shared} (I : Inv X (pins ++ pl) σ H s) : Inv X pins σ H s := I.pins_of fun p hp => I.pin p (List.mem_append_right _ (List.mem_append_left _ hp))
theorem ps_for {iter : Expr} {body : List Stmt} {wi : TI} {g : TG} {tb : TS} {pos : Pos} (hp : PassesOwn (model X.prog X.w) X.A X.env X.xe) (hc : X.calm = true) (hi : PI X tg iter wi) (hg : PG X tg g) (hb : PSs X body tb)
    (hs : ∀ x, foldedSetIterable iter X.env x = pure x := by intro _; rfl) : PS X (.For tg iter body [] pos) (tFor wi g tb) := by
  intro pins s σ H D I h
  refine wpAny_For (thn (hi pins s σ H _ I h) fun v s1 h1 => thn h1 fun itv s2 h2 => ?_) hs
  obtain ⟨it, fp, tn, J, H2, e, I2, T, st2, f2, W, ⟨m0, w0⟩, turn⟩ := h2
  subst e
  -- what stays true of the iterator's objects through the loop
  have stat : ∀ {H' : Hp}, (∀ b ∈ fp, H' b = none) → ∀ b ∈ fp, FpOk X pins H' b := fun hn b hb => ⟨hn b hb, (f2 b hb).2⟩
  refine codeAny_forLoop_any (fun n s' => ∃ i σ' H', Inv X pins σ' H' s' ∧ tn i s'.heap ∧ (∀ b ∈ fp, H' b = none) ∧ W i n σ' H') ?_ m0 ⟨0, σ, H2, I2, st2, fun b hb => (f2 b hb).1, w0⟩
  rintro n s3 ⟨i, σ3, H3, I3, st3, fr3, w3⟩
  rcases turn i n σ3 H3 w3 with ⟨stop, qn⟩ | ⟨go, N, hN, step⟩
  · refine wpAny_passesOwn hp (thn (T.done X rfl rfl rfl hc i pins s3 σ3 H3 X.xe I3 (stat fr3) st3 stop) fun r s4 ⟨hr, I4⟩ => ?_)
    subst hr
    exact wpAny_execs_nil ⟨σ3, H3, I4, qn⟩
  · refine wpAny_passesOwn hp (thn (T.item X rfl rfl rfl hc i pins s3 σ3 H3 X.xe I3 (stat fr3) st3 go) fun r s4 ⟨u, hr, h4⟩ => ?_)
    subst hr
    refine wpAny_passesOwn hp (thn h4 fun _ s5 ⟨x, H5, I5, r5, y5, st5, fr5⟩ => ?_)
    have I5' := I5.pinned (stat fr5) (T.obj _ _ st5)
    refine wpAny_passesOwn hp (thn (hg _ s5 σ3 H5 x u _ I5' r5 (step x H5 y5)) fun _ s6 ⟨σ6, H6, I6, q6⟩ => ?_)
    refine wpAny_passesOwn hp (thn (hb _ s6 σ6 H6 _ I6 q6) fun f s7 q7 => ?_)
    have again : ∀ {σ7 : St} {H7 : Hp}, Inv X (pins ++ pinsAt fp s5.heap) σ7 H7 s7 → N σ7 H7 → ∃ m, m < n ∧ ∃ i σ' H', Inv X pins σ' H' s7 ∧ tn i s7.heap ∧ (∀ b ∈ fp, H' b = none) ∧ W i m σ' H' := fun {σ7 H7} I7 n7 => by
      obtain ⟨m', hm, w7⟩ := hN σ7 H7 n7
      refine ⟨m', hm, i + 1, σ7, H7, I7.unpinned, T.keep _ _ _ st5 fun b hb o e => (I7.pin (b, o) (List.mem_append_right _ (List.mem_append_right _ (mem_pinsAt hb e)))).1, fun b hb => ?_, w7⟩
      obtain ⟨o, e, d⟩ := T.obj _ _ st5 b hb
      exact (I7.pin (b, o) (List.mem_append_right _ (List.mem_append_right _ (mem_pinsAt hb e)))).2.1
    cases f with
    | next => obtain ⟨σ7, H7, I7, n7⟩ := q7; exact again I7 n7
    | cont => obtain ⟨σ7, H7, I7, n7⟩ := q7; exact again I7 n7
    | brk => obtain ⟨σ7, H7, I7, q7⟩ := q7; exact ⟨σ7, H7, I7.unpinned, q7⟩
    | ret v => obtain ⟨x7, σ7, H7, I7, r7, q7⟩ := q7; exact ⟨x7, σ7, H7, I7.unpinned, r7, q7⟩
end
theorem for_list {K : PySem.W.Frag} {a : Addr} {xs : List V} {g : TG} {tb : TS} {D : Ends} {σ : St} {H : Hp} (Pv : Nat → St → Hp → Prop) (h0 : Pv 0 σ H) (hl : ∀ i σ H, i ≤ xs.length → Pv i σ H → SqL K H a xs)
    (hs : ∀ i x σ H, xs[i]? = some x → Pv i σ H → g x σ H fun σ2 H2 => tb { D with nx := Pv (i + 1), ct := Pv (i + 1), bk := D.nx } σ2 H2) (hd : ∀ σ H, Pv xs.length σ H → D.nx σ H) :
    ∃ W : Nat → Nat → St → Hp → Prop, (∃ m, W 0 m σ H) ∧ ∀ i m σ H, W i m σ H →
      ((Itl K a).stop i H ∧ D.nx σ H) ∨ ((Itl K a).go i H ∧ ∃ N : St → Hp → Prop, (∀ σ' H', N σ' H' → ∃ m', m' < m ∧ W (i + 1) m' σ' H') ∧ ∀ x H', (Itl K a).yld i H x H' → g x σ H' fun σ2 H2 => tb { D with nx := N, ct := N, bk := D.nx } σ2 H2) := by
  refine ⟨fun i m σ H => m = xs.length - i ∧ i ≤ xs.length ∧ Pv i σ H, ⟨xs.length, by simp, Nat.zero_le _, h0⟩, ?_⟩
  rintro i m σ H ⟨rfl, hi, p⟩
  have q := hl i σ H hi p
  by_cases hlt : i < xs.length
  · refine .inr ⟨⟨xs, xs[i], q, by simp [hlt]⟩, Pv (i + 1), fun σ' H' p' => ⟨xs.length - (i + 1), by omega, rfl, hlt, p'⟩, fun x H' y => ?_⟩
    obtain ⟨e, y⟩ := y
    subst e
    exact hs i x σ _ (y xs q) p
  · have e : i = xs.length := by omega
    subst e
    exact .inl ⟨⟨xs, q, Nat.le_refl _⟩, hd σ H p⟩
theorem for_tup {K : PySem.W.Frag} {a : Addr} {xs : List V} {g : TG} {tb : TS} {D : Ends} {σ : St} {H : Hp} (Pv : Nat → St → Hp → Prop) (h0 : Pv 0 σ H) (hl : ∀ i σ H, i ≤ xs.length → Pv i σ H → SqT K H a xs)
    (hs : ∀ i x σ H, xs[i]? = some x → Pv i σ H → g x σ H fun σ2 H2 => tb { D with nx := Pv (i + 1), ct := Pv (i + 1), bk := D.nx } σ2 H2) (hd : ∀ σ H, Pv xs.length σ H → D.nx σ H) :
    ∃ W : Nat → Nat → St → Hp → Prop, (∃ m, W 0 m σ H) ∧ ∀ i m σ H, W i m σ H →
      ((Itt K a).stop i H ∧ D.nx σ H) ∨ ((Itt K a).go i H ∧ ∃ N : St → Hp → Prop, (∀ σ' H', N σ' H' → ∃ m', m' < m ∧ W (i + 1) m' σ' H') ∧ ∀ x H', (Itt K a).yld i H x H' → g x σ H' fun σ2 H2 => tb { D with nx := N, ct := N, bk := D.nx } σ2 H2) := by
  refine ⟨fun i m σ H => m = xs.length - i ∧ i ≤ xs.length ∧ Pv i σ H, ⟨xs.length, by simp, Nat.zero_le _, h0⟩, ?_⟩
  rintro i m σ H ⟨rfl, hi, p⟩
  have q := hl i σ H hi p
  by_cases hlt : i < xs.length
  · refine .inr ⟨⟨xs, xs[i], q, by simp [hlt]⟩, Pv (i + 1), fun σ' H' p' => ⟨xs.length - (i + 1), by omega, rfl, hlt, p'⟩, fun x H' y => ?_⟩
    obtain ⟨e, y⟩ := y
    subst e
    exact hs i x σ _ (y xs q) p
  · have e : i = xs.length := by omega
    subst e
    exact .inl ⟨⟨xs, q, Nat.le_refl _⟩, hd σ H p⟩
theorem for_range {lo : Int} {n : Nat} {g : TG} {tb : TS} {D : Ends} {σ : St} {H : Hp} (Pv : Nat → St → Hp → Prop) (h0 : Pv 0 σ H)
    (hs : ∀ i σ H, i < n → Pv i σ H → g (.int (lo + i)) σ H fun σ2 H2 => tb { D with nx := Pv (i + 1), ct := Pv (i + 1), bk := D.nx } σ2 H2) (hd : ∀ σ H, Pv n σ H → D.nx σ H) :
    ∃ W : Nat → Nat → St → Hp → Prop, (∃ m, W 0 m σ H) ∧ ∀ i m σ H, W i m σ H →
      ((Itr lo n).stop i H ∧ D.nx σ H) ∨ ((Itr lo n).go i H ∧ ∃ N : St → Hp → Prop, (∀ σ' H', N σ' H' → ∃ m', m' < m ∧ W (i + 1) m' σ' H') ∧ ∀ x H', (Itr lo n).yld i H x H' → g x σ H' fun σ2 H2 => tb { D with nx := N, ct := N, bk := D.nx } σ2 H2) := by
  refine ⟨fun i m σ H => m = n - i ∧ i ≤ n ∧ Pv i σ H, ⟨n, by simp, Nat.zero_le _, h0⟩, ?_⟩
  rintro i m σ H ⟨rfl, hi, p⟩
  by_cases hlt : i < n
  · refine .inr ⟨hlt, Pv (i + 1), fun σ' H' p' => ⟨n - (i + 1), by omega, rfl, hlt, p'⟩, fun x H' y => ?_⟩
    obtain ⟨e, y⟩ := y
    subst e y
    exact hs i σ _ hlt p
  · have e : i = n := by omega
    subst e
    exact .inl ⟨Nat.le_refl _, hd σ H p⟩
end L2
namespace L2
open PySem PySem.Spec PyProof.Rows
abbrev R2 := V → V → Hp → VK → Prop
def OpR (X : Cx) (f : Value → Value → Sem Value) (r : R2) : Prop :=
  ∀ (pins : List (Addr × Obj)) (s : Shared) (σ : St) (H : Hp) (x y : V) (v u : Value) (Q : VK), Inv X pins σ H s → RelV x v → RelV y u → r x y H Q →
    wpAny (model X.prog X.w) X.A (f v u) (EP X pins σ Q) X.xe s
def CallR (X : Cx) (f : Value) (r : List V → Hp → VK → Prop) : Prop :=
  ∀ (pins : List (Addr × Obj)) (s : Shared) (σ : St) (H : Hp) (xs : List V) (us : List Value) (Q : VK), Inv X pins σ H s → Vals xs us → r xs H Q →
    wpAny (model X.prog X.w) X.A (call f us) (EP X pins σ Q) X.xe s
def TruR (X : Cx) (r : V → Hp → (Bool → Hp → Prop) → Prop) : Prop :=
  ∀ (pins : List (Addr × Obj)) (s : Shared) (σ : St) (H : Hp) (x : V) (v : Value) (Q : Bool → Hp → Prop), Inv X pins σ H s → RelV x v → r x H Q →
    wpAny (model X.prog X.w) X.A (truthy v) (TP X pins σ Q) X.xe s
def tOp (r : R2) (ta tb : TE) : TE := fun σ H Q => ta σ H fun x H1 => tb σ H1 fun y H2 => r x y H2 Q
def tUn (r : V → Hp → VK → Prop) (ta : TE) : TE := fun σ H Q => ta σ H fun x H1 => r x H1 Q
def rI (C : Int → Int → Prop) (g : Int → Int → V) : R2 := fun x y H Q => ∃ i j, x = .int i ∧ y = .int j ∧ C i j ∧ Q (g i j) H
def rI0 (g : Int → Int → V) : R2 := fun x y H Q => ∃ i j, x = .int i ∧ y = .int j ∧ Q (g i j) H
def rU (g : Int → V) : V → Hp → VK → Prop := fun x H Q => ∃ i, x = .int i ∧ Q (g i) H
section
variable {X : Cx} {a b c : Expr} {ta tb tc : TE} {pos : Pos}
theorem binT (ha : PE X a ta) (hb : PE X b tb) {pins : List (Addr × Obj)} {s : Shared} {σ : St} {H : Hp} {R : V → V → Hp → Prop} (I : Inv X pins σ H s)
    (h : ta σ H fun x H1 => tb σ H1 fun y H2 => R x y H2) {Q : Value → Shared → Prop} {f : Value → Value → Sem Value}
    (hf : ∀ v u s2 x y H2, Inv X pins σ H2 s2 → RelV x v → RelV y u → R x y H2 → wpAny (model X.prog X.w) X.A (f v u) Q X.xe s2) :
    wpAny (model X.prog X.w) X.A (eval a X.env) (fun v s₁ => wpAny (model X.prog X.w) X.A (eval b X.env) (fun u s₂ => wpAny (model X.prog X.w) X.A (f v u) Q X.xe s₂) X.xe s₁) X.xe s := by
  refine thnE (ha pins s σ H _ I h) fun v s1 x H1 I1 r1 q1 => ?_
  refine thnE (hb pins s1 σ H1 _ I1 q1) fun u s2 y H2 I2 r2 q2 => ?_
  exact hf v u s2 x y H2 I2 r1 r2 q2
theorem pe_op {op : Operator} {r : R2} (ho : OpR X (binaryOp op) r) (ha : PE X a ta) (hb : PE X b tb) : PE X (.BinOp a op b pos) (tOp r ta tb) := by
  intro pins s σ H Q I h
  exact wpAny_BinOp (binT ha hb I h fun v u s2 x y H2 I2 rx ry q => ho pins s2 σ H2 x y v u Q I2 rx ry q)
theorem opI {f : Value → Value → Sem Value} {C : Int → Int → Prop} {g : Int → Int → Int}
    (rule : ∀ (i j : Int) (t u : Tok) (s : Shared) (Q : Value → Shared → Prop) (E : Value → Shared → Prop), C i j → Q (.int (g i j) s.toks) { s with toks := s.toks + 1 } → wpAny (model X.prog X.w) X.A (f (.int i t) (.int j u)) Q E s) :
    OpR X f (rI C fun i j => .int (g i j)) := by
  intro pins s σ H x y v u Q I rx ry h
  obtain ⟨i, j, rfl, rfl, hc, q⟩ := h
  obtain ⟨t, rfl⟩ := rx
  obtain ⟨t', rfl⟩ := ry
  exact rule i j t t' s _ _ hc ⟨.int (g i j), H, I.tok _, ⟨_, rfl⟩, q⟩
theorem opI0 {f : Value → Value → Sem Value} {g : Int → Int → Int}
    (rule : ∀ (i j : Int) (t u : Tok) (s : Shared) (Q : Value → Shared → Prop) (E : Value → Shared → Prop), Q (.int (g i j) s.toks) { s with toks := s.toks + 1 } → wpAny (model X.prog X.w) X.A (f (.int i t) (.int j u)) Q E s) :
    OpR X f (rI0 fun i j => .int (g i j)) := by
  intro pins s σ H x y v u Q I rx ry h
  obtain ⟨i, j, rfl, rfl, q⟩ := h
  obtain ⟨t, rfl⟩ := rx
  obtain ⟨t', rfl⟩ := ry
  exact rule i j t t' s _ _ ⟨.int (g i j), H, I.tok _, ⟨_, rfl⟩, q⟩
theorem opB0 {f : Value → Value → Sem Value} {g : Int → Int → Bool}
    (rule : ∀ (i j : Int) (t u : Tok) (s : Shared) (Q : Value → Shared → Prop) (E : Value → Shared → Prop), Q (.bool (g i j)) s → wpAny (model X.prog X.w) X.A (f (.int i t) (.int j u)) Q E s) :
    OpR X f (rI0 fun i j => .bl (g i j)) := by
  intro pins s σ H x y v u Q I rx ry h
  obtain ⟨i, j, rfl, rfl, q⟩ := h
  obtain ⟨t, rfl⟩ := rx
  obtain ⟨t', rfl⟩ := ry
  exact rule i j t t' s _ _ ⟨.bl (g i j), H, I, rfl, q⟩
def CDiv (i j : Int) : Prop := 0 < j ∧ j < 1073741824
def CPow (i j : Int) : Prop := 0 ≤ j ∧ j ≤ 1000000 ∧ i.natAbs < 2 ^ 64
def CMul (i j : Int) : Prop := (-(2 ^ 64) < i ∧ i < 2 ^ 64) ∨ (-(2 ^ 64) < j ∧ j < 2 ^ 64)
theorem CMul.ok {i j : Int} (h : CMul i j) : IntMulOk i j := by
  rcases h with ⟨h1, h2⟩ | ⟨h1, h2⟩
  · exact .of_left (intBits_le_64 h1 h2)
  · exact .of_right (intBits_le_64 h1 h2)
theorem op_add : OpR X (binaryOp .Add) (rI0 fun i j => .int (i + j)) := opI0 fun _ _ _ _ _ _ _ q => add_int q
theorem op_sub : OpR X (binaryOp .Sub) (rI0 fun i j => .int (i - j)) := opI0 fun _ _ _ _ _ _ _ q => sub_int q
theorem op_mul : OpR X (binaryOp .Mult) (rI CMul fun i j => .int (i * j)) := opI fun _ _ _ _ _ _ _ hc q => mul_int q hc.ok
theorem op_fdiv : OpR X (binaryOp .FloorDiv) (rI CDiv fun i j => .int (i / j)) := opI fun i j _ _ _ _ _ hc q => by
  have h1 : (0 : Int) < j := hc.1
  have h2 : j < 1073741824 := hc.2
  exact floordiv_int (by omega) (by rw [Int.fdiv_eq_ediv_of_nonneg i (by omega)]; exact q) (.inl (PyProof.noPylong_small (by omega)))
theorem op_mod : OpR X (binaryOp .Mod) (rI (fun _ j => 0 < j) fun i j => .int (i % j)) := opI fun i j _ _ _ _ _ hc q => by
  have h1 : (0 : Int) < j := hc
  exact mod_int' (by omega) (by rw [Int.fmod_eq_emod_of_nonneg i (by omega)]; exact q)
theorem op_pow : OpR X (binaryOp .Pow) (rI CPow fun i j => .int (i ^ j.toNat)) := opI fun _ _ _ _ _ _ _ hc q => pow_int_small hc.1 hc.2.1 hc.2.2 q
end
def scal : V → V → Bool
  | .non, .non => true | .non, .int _ => true | .int _, .non => true | .non, .bl _ => true | .bl _, .non => true | .non, .str _ => true | .str _, .non => true
  | .int _, .int _ => true | .bl _, .bl _ => true | .str _, .str _ => true | .byt _, .byt _ => true
  | .int _, .str _ => true | .str _, .int _ => true | .bl _, .str _ => true | .str _, .bl _ => true
  | _, _ => false
def rEq : R2 := fun x y H Q => scal x y = true ∧ Q (.bl (decide (x = y))) H
def rNe : R2 := fun x y H Q => scal x y = true ∧ Q (.bl (!decide (x = y))) H
theorem dec_int {i j : Int} : decide (V.int i = V.int j) = (i == j) := by
  rw [Bool.eq_iff_iff]
  simp
theorem dec_bl {i j : Bool} : decide (V.bl i = V.bl j) = (i == j) := by
  rw [Bool.eq_iff_iff]
  simp
theorem dec_str {i j : Str} : decide (V.str i = V.str j) = (i == j) := by
  rw [Bool.eq_iff_iff]
  simp
theorem dec_byt {i j : Array UInt8} : decide (V.byt i = V.byt j) = (i.toList == j.toList) := by
  rw [Bool.eq_iff_iff]
  cases i
  cases j
  simp
section
variable {X : Cx} {a b c : Expr} {ta tb tc : TE} {pos : Pos}
theorem fin_bl {pins : List (Addr × Obj)} {σ : St} {H : Hp} {s : Shared} {Q : VK} {k k' : Bool} (I : Inv X pins σ H s) (q : Q (.bl k) H) (e : k = k') : EP X pins σ Q (.bool k') s := by
  subst e
  exact ⟨.bl k, H, I, rfl, q⟩
theorem op_eq : OpR X (compareOp .Eq) rEq := by
  intro pins s σ H x y v u Q I rx ry h
  obtain ⟨hs, q⟩ := h
  cases x with
  | non =>
    cases rx
    cases y with
    | non => cases ry; exact PySem.EqNone.eq_none_none (fin_bl I q (by simp))
    | bl j => cases ry; exact PySem.EqNone.eq_none_bool (fin_bl I q (by simp))
    | int j => obtain ⟨t', rfl⟩ := ry; exact PySem.EqNone.eq_none_int (fin_bl I q (by simp))
    | str j => obtain ⟨t', rfl⟩ := ry; exact PySem.EqNone.eq_none_str (fin_bl I q (by simp))
    | _ => exact absurd (show false = true from hs) Bool.false_ne_true
  | bl i =>
    cases rx
    cases y with
    | non => cases ry; exact PySem.EqNone.eq_bool_none (fin_bl I q (by simp))
    | bl j => cases ry; exact eq_bool (fin_bl I q dec_bl)
    | str j => obtain ⟨t', rfl⟩ := ry; exact PySem.EqMixed.eq_bool_str (fin_bl I q (by simp))
    | _ => exact absurd (show false = true from hs) Bool.false_ne_true
  | int i =>
    obtain ⟨t, rfl⟩ := rx
    cases y with
    | non => cases ry; exact PySem.EqNone.eq_int_none (fin_bl I q (by simp))
    | int j => obtain ⟨t', rfl⟩ := ry; exact eq_int (fin_bl I q dec_int)
    | str j => obtain ⟨t', rfl⟩ := ry; exact PySem.EqMixed.eq_int_str (fin_bl I q (by simp))
    | _ => exact absurd (show false = true from hs) Bool.false_ne_true
  | str i =>
    obtain ⟨t, rfl⟩ := rx
    cases y with
    | non => cases ry; exact PySem.EqNone.eq_str_none (fin_bl I q (by simp))
    | bl j => cases ry; exact PySem.EqMixed.eq_str_bool (fin_bl I q (by simp))
    | int j => obtain ⟨t', rfl⟩ := ry; exact PySem.EqMixed.eq_str_int (fin_bl I q (by simp))
    | str j => obtain ⟨t', rfl⟩ := ry; exact eq_str (fin_bl I q dec_str)
    | _ => exact absurd (show false = true from hs) Bool.false_ne_true
  | byt i =>
    obtain ⟨t, rfl⟩ := rx
    cases y with
    | byt j => obtain ⟨t', rfl⟩ := ry; exact PySem.W.eq_bytes (fin_bl I q dec_byt)
    | _ => exact absurd (show false = true from hs) Bool.false_ne_true
  | _ => cases y <;> exact absurd (show false = true from hs) Bool.false_ne_true
theorem op_ne : OpR X (compareOp .NotEq) rNe := by
  intro pins s σ H x y v u Q I rx ry h
  obtain ⟨hs, q⟩ := h
  cases x with
  | non =>
    cases rx
    cases y with
    | non => cases ry; exact PySem.EqNone.ne_none_none (fin_bl I q (by simp))
    | bl j => cases ry; exact PySem.EqNone.ne_none_bool (fin_bl I q (by simp))
    | int j => obtain ⟨t', rfl⟩ := ry; exact PySem.EqNone.ne_none_int (fin_bl I q (by simp))
    | str j => obtain ⟨t', rfl⟩ := ry; exact PySem.EqNone.ne_none_str (fin_bl I q (by simp))
    | _ => exact absurd (show false = true from hs) Bool.false_ne_true
  | bl i =>
    cases rx
    cases y with
    | non => cases ry; exact PySem.EqNone.ne_bool_none (fin_bl I q (by simp))
    | bl j => cases ry; exact ne_bool (fin_bl I q (congrArg not dec_bl))
    | str j => obtain ⟨t', rfl⟩ := ry; exact PySem.EqMixed.ne_bool_str (fin_bl I q (by simp))
    | _ => exact absurd (show false = true from hs) Bool.false_ne_true
  | int i =>
    obtain ⟨t, rfl⟩ := rx
    cases y with
    | non => cases ry; exact PySem.EqNone.ne_int_none (fin_bl I q (by simp))
    | int j => obtain ⟨t', rfl⟩ := ry; exact ne_int (fin_bl I q (congrArg not dec_int))
    | str j => obtain ⟨t', rfl⟩ := ry; exact PySem.EqMixed.ne_int_str (fin_bl I q (by simp))
    | _ => exact absurd (show false = true from hs) Bool.false_ne_true
  | str i =>
    obtain ⟨t, rfl⟩ := rx
    cases y with
    | non => cases ry; exact PySem.EqNone.ne_str_none (fin_bl I q (by simp))
    | bl j => cases ry; exact PySem.EqMixed.ne_str_bool (fin_bl I q (by simp))
    | int j => obtain ⟨t', rfl⟩ := ry; exact PySem.EqMixed.ne_str_int (fin_bl I q (by simp))
    | str j => obtain ⟨t', rfl⟩ := ry; exact ne_str (fin_bl I q (congrArg not dec_str))
    | _ => exact absurd (show false = true from hs) Bool.false_ne_true
  | byt i =>
    obtain ⟨t, rfl⟩ := rx
    cases y with
    | byt j => obtain ⟨t', rfl⟩ := ry; exact PySem.W.ne_bytes (fin_bl I q (congrArg not dec_byt))
    | _ => exact absurd (show false = true from hs) Bool.false_ne_true
  | _ => cases y <;> exact absurd (show false = true from hs) Bool.false_ne_true
theorem op_lt : OpR X (compareOp .Lt) (rI0 fun i j => .bl (decide (i < j))) := opB0 fun _ _ _ _ _ _ _ q => lt_int q
theorem op_le : OpR X (compareOp .LtE) (rI0 fun i j => .bl (decide (i ≤ j))) := opB0 fun _ _ _ _ _ _ _ q => le_int q
theorem op_gt : OpR X (compareOp .Gt) (rI0 fun i j => .bl (decide (j < i))) := opB0 fun _ _ _ _ _ _ _ q => gt_int q
theorem op_ge : OpR X (compareOp .GtE) (rI0 fun i j => .bl (decide (j ≤ i))) := opB0 fun _ _ _ _ _ _ _ q => ge_int q
theorem op_in_str : OpR X (compareOp .In) (fun x y H Q => ∃ i j, x = .str i ∧ y = .str j ∧ Q (.bl (!(Builtin.Str.occurrences j i 0 j.length 1).isEmpty)) H) := by
  intro pins s σ H x y v u Q I rx ry h
  obtain ⟨i, j, rfl, rfl, q⟩ := h
  obtain ⟨t, rfl⟩ := rx
  obtain ⟨t', rfl⟩ := ry
  exact in_str (fin_bl I q rfl)
theorem nomark (b : Expr) {op : CmpOp} (h : op ≠ .In := by decide) (h2 : op ≠ .NotIn := by decide) : behindInMarks op b = false := by
  have e1 : (op == CmpOp.In) = false := by cases op <;> first | rfl | exact absurd rfl h
  have e2 : (op == CmpOp.NotIn) = false := by cases op <;> first | rfl | exact absurd rfl h2
  cases b <;> simp [behindInMarks, e1, e2]
theorem pe_cmpR {op : CmpOp} {r : R2} (ho : OpR X (compareOp op) r) (ha : PE X a ta) (hb : PE X b tb) (hm : behindInMarks op b = false) : PE X (.Compare a [op] [b] pos) (tOp r ta tb) := by
  intro pins s σ H Q I h
  exact wpAny_Compare1 (binT ha hb I h fun v u s2 x y H2 I2 rx ry q => ho pins s2 σ H2 x y v u Q I2 rx ry q) hm
def tTest (t : TE) : TT := fun σ H Q => t σ H fun x H' => ∃ k, x = .bl k ∧ Q k H'
theorem pt_cmpR {op : CmpOp} {r : R2} (ho : OpR X (compareOp op) r) (ha : PE X a ta) (hb : PE X b tb) (hm : behindInMarks op b = false) : PT X (.Compare a [op] [b] pos) (tTest (tOp r ta tb)) := by
  intro pins s σ H Q I h
  refine wpAny_isTrue_Compare1 (thnE (ha pins s σ H _ I h) fun v s1 x H1 I1 r1 q1 => thnE (hb pins s1 σ H1 _ I1 q1) fun u s2 y H2 I2 r2 q2 =>
    thnE (ho pins s2 σ H2 x y v u _ I2 r1 r2 q2) fun c s3 z H3 I3 r3 ⟨k, e, q3⟩ => ?_) hm
  subst e
  cases r3
  exact wpAny_truthy_bool ⟨H3, I3, q3⟩
def tChain (r r' : R2) (ta tb tc : TE) : TE := fun σ H Q => ta σ H fun x H1 => tb σ H1 fun y H2 => r x y H2 fun z H3 => ∃ k, z = .bl k ∧
  (if k = true then tc σ H3 fun w' H4 => r' y w' H4 Q else Q (.bl false) H3)
theorem pe_chain {op op' : CmpOp} {r r' : R2} (ho : OpR X (compareOp op) r) (ho' : OpR X (compareOp op') r') (ha : PE X a ta) (hb : PE X b tb) (hc : PE X c tc)
    (hm : lastMarks [op, op'] [b, c] = false := by with_unfolding_all rfl) : PE X (.Compare a [op, op'] [b, c] pos) (tChain r r' ta tb tc) := by
  intro pins s σ H Q I h
  refine Compare_chain (thnE (ha pins s σ H _ I h) fun v s1 x H1 I1 r1 q1 => chain_link (thnE (hb pins s1 σ H1 _ I1 q1) fun u s2 y H2 I2 r2 q2 =>
    thnE (ho pins s2 σ H2 x y v u _ I2 r1 r2 q2) fun d s3 z H3 I3 r3 ⟨k, e, q3⟩ => ?_)) hm
  subst e
  cases r3
  refine wpAny_truthy_bool ?_
  cases k with
  | false => exact ite_ff ⟨.bl false, H3, I3, rfl, q3⟩
  | true => exact ite_tt (chain_last (thn (hc pins s3 σ H3 _ I3 q3) fun w' s4 ⟨z', H4, I4, r4, q4⟩ => ho' pins s4 σ H4 y z' u w' Q I4 r2 r4 q4))
theorem pt_chain {op op' : CmpOp} {r r' : R2} (ho : OpR X (compareOp op) r) (ho' : OpR X (compareOp op') r') (ha : PE X a ta) (hb : PE X b tb) (hc : PE X c tc)
    (hm : lastMarks [op, op'] [b, c] = false := by with_unfolding_all rfl) : PT X (.Compare a [op, op'] [b, c] pos) (tTest (tChain r r' ta tb tc)) := by
  intro pins s σ H Q I h
  refine isTrue_chain (thnE (ha pins s σ H _ I h) fun v s1 x H1 I1 r1 q1 => test_link (thnE (hb pins s1 σ H1 _ I1 q1) fun u s2 y H2 I2 r2 q2 =>
    thnE (ho pins s2 σ H2 x y v u _ I2 r1 r2 q2) fun d s3 z H3 I3 r3 ⟨k, e, q3⟩ => ?_)) hm
  subst e
  cases r3
  refine wpAny_truthy_bool ?_
  cases k with
  | false =>
    obtain ⟨k', e', q'⟩ := q3
    cases e'
    exact ite_ff ⟨H3, I3, q'⟩
  | true =>
    refine ite_tt (test_last (thn (hc pins s3 σ H3 _ I3 q3) fun w' s4 ⟨z', H4, I4, r4, q4⟩ => thn (ho' pins s4 σ H4 y z' u w' _ I4 r2 r4 q4) fun d' s5 ⟨z2, H5, I5, r5, k2, e2, q5⟩ => ?_))
    subst e2
    cases r5
    exact wpAny_truthy_bool ⟨H5, I5, q5⟩
def TruV (K : PySem.W.Frag) (x : V) (H : Hp) (k : Bool) : Prop :=
  match x with
  | .non => k = false
  | .bl b => k = b
  | .int i => k = (i != 0)
  | .str y => y.length ≤ sizeLine ∧ k = ((y.length : Int) != 0)
  | .byt y => y.size ≤ sizeLine ∧ k = ((y.size : Int) != 0)
  | .ref p => (∃ xs, SqL K H p xs ∧ k = !xs.isEmpty) ∨ (∃ xs, SqT K H p xs ∧ k = !xs.isEmpty) ∨ ∃ kvs, H p = some (.dK kvs) ∧ k = !kvs.isEmpty
  | _ => False
theorem isEmpty_kv {κ : Type} {kvs : List (κ × V)} {vs : List (κ × Value)} (r : KV kvs vs) : (!vs.isEmpty) = !kvs.isEmpty := by
  cases r <;> rfl
theorem isEmpty_of {xs : List V} {its : List Value} (r : Vals xs its) : (!its.toArray.isEmpty) = !xs.isEmpty := by
  cases r <;> simp
theorem line63 : (sizeLine : Nat) < 2 ^ 63 := by rw [sizeLine_eq]; decide
theorem tru_ok : TruR X (fun x H Q => ∃ k, TruV X.K x H k ∧ Q k H) := by
  intro pins s σ H x v Q I rx h
  obtain ⟨k, e, q⟩ := h
  have hl := line63
  have hs : sizeLine = 16777216 := sizeLine_eq
  cases x with
  | non =>
    cases rx
    have e' : k = false := e
    subst e'
    exact truthy_none ⟨H, I, q⟩
  | bl b =>
    cases rx
    have e' : k = b := e
    subst e'
    exact wpAny_truthy_bool ⟨H, I, q⟩
  | int i =>
    obtain ⟨t, rfl⟩ := rx
    have e' : k = (i != 0) := e
    subst e'
    exact PySem.P.truthy_int ⟨H, I, q⟩
  | str y =>
    obtain ⟨t, rfl⟩ := rx
    obtain ⟨hy, e'⟩ : y.length ≤ sizeLine ∧ k = ((y.length : Int) != 0) := e
    subst e'
    exact PySem.P.truthy_str (by omega) ⟨H, I.tok _, q⟩
  | byt y =>
    obtain ⟨t, rfl⟩ := rx
    obtain ⟨hy, e'⟩ : y.size ≤ sizeLine ∧ k = ((y.size : Int) != 0) := e
    subst e'
    exact PySem.W.truthy_bytes (by omega) ⟨H, I.tok _, q⟩
  | ref p =>
    cases rx
    have e' : (∃ xs, SqL X.K H p xs ∧ k = !xs.isEmpty) ∨ (∃ xs, SqT X.K H p xs ∧ k = !xs.isEmpty) ∨ ∃ kvs, H p = some (.dK kvs) ∧ k = !kvs.isEmpty := e
    rcases e' with ⟨xs, hx, e'⟩ | ⟨xs, hx, e'⟩ | ⟨kvs, hx, e'⟩
    · subst e'
      obtain ⟨its, r, pl, hz⟩ := I.list hx
      have hlen := r.length
      exact wpAny_truthy_list pl.isList (by simp only [List.size_toArray]; omega) ⟨H, I.tok _, by rw [isEmpty_of r]; exact q⟩
    · subst e'
      obtain ⟨its, r, pl, hz⟩ := I.tuple hx
      have hlen := r.length
      exact truthy_tuple pl (by simp only [List.size_toArray]; omega) ⟨H, I.tok _, by rw [isEmpty_of r]; exact q⟩
    · subst e'
      obtain ⟨hz, hS, vs, r, m⟩ : kvs.length ≤ sizeLine ∧ (p == sysModules) = false ∧ ∃ vs, KV kvs vs ∧ s.heap.DictOf (mixKind X.prog X.w) p vs := I.hok p _ hx
      have hlen : kvs.length = vs.length := Paired.length r
      exact wpAny_truthy_dict hS m (by omega) ⟨H, I.tok _, by rw [isEmpty_kv r]; exact q⟩
  | _ => exact (show False from e).elim
theorem pt_truth (ha : PE X a ta) (he : ∀ whole, isTrue a X.env whole = (do let v ← whole; standAt a.pos; holding [v] (truthy v))) :
    PT X a (fun σ H Q => ta σ H fun x H' => ∃ k, TruV X.K x H' k ∧ Q k H') := by
  intro pins s σ H Q I h
  exact isTrue_plain (thnE (ha pins s σ H _ I h) fun v s1 x H1 I1 r1 q1 => tru_ok pins s1 σ H1 x v Q I1 r1 q1) (he _)
theorem op_add_str : OpR X (binaryOp .Add) (fun x y H Q => ∃ i j, x = .str i ∧ y = .str j ∧ i.length + j.length ≤ sizeLine ∧ Q (.str (i ++ j)) H) := by
  intro pins s σ H x y v u Q I rx ry h
  obtain ⟨i, j, rfl, rfl, hz, q⟩ := h
  obtain ⟨t, rfl⟩ := rx
  obtain ⟨t', rfl⟩ := ry
  exact add_str (fun t' tk => ⟨.str (i ++ j), H, I.tok _, ⟨_, rfl⟩, q⟩) hz
theorem vals1 {x : V} {us : List Value} (r : Vals [x] us) : ∃ u, us = [u] ∧ RelV x u := by
  cases r with
  | cons r1 r2 => cases r2; exact ⟨_, rfl, r1⟩
theorem vals2 {x y : V} {us : List Value} (r : Vals [x, y] us) : ∃ u w', us = [u, w'] ∧ RelV x u ∧ RelV y w' := by
  cases r with
  | cons r1 r2 =>
    cases r2 with
    | cons r3 r4 => cases r4; exact ⟨_, _, rfl, r1, r3⟩
theorem call_str_int : CallR X (.type "str") (fun xs H Q => ∃ i, xs = [.int i] ∧ i.natAbs.log2 < 1920 ∧ Q (.str (toString i)) H) := by
  intro pins s σ H xs us Q I r h
  obtain ⟨i, rfl, hz, q⟩ := h
  obtain ⟨u, rfl, t, rfl⟩ := vals1 r
  exact PySem.P.str_of_int hz ⟨.str _, H, I.tok _, ⟨_, rfl⟩, q⟩
end
end L2
namespace L2
open PySem PySem.Spec PyProof.Rows
structure ObjM (h : Heap) (x dx C : Addr) (mA : Str → Option Value) : Prop where
  obj : h.get? x = some (PySem.W.instObj C dx)
  ns : h.Ns1 dx mA
  ne : dx ≠ x
theorem lookIn_ns {h : Heap} {dx : Addr} {mA : Str → Option Value} (n : h.Ns1 dx mA) : ∃ od, h.get? dx = some od ∧ ∀ name, PySem.W.lookIn name od = some (mA name) := by
  obtain ⟨o, es, ep, ho, hd, hk, _, hm⟩ := n
  refine ⟨o, ho, fun name => ?_⟩
  have e := hm name
  unfold nsFind findBy at e
  rw [← Array.find?_toList] at e
  unfold PySem.W.lookIn
  rw [hd]
  dsimp only
  split
  · rename_i y q
    rw [q] at e
    exact congrArg some e
  · rename_i q
    rw [q] at e
    have a : es.toList.any (·.refKey) = false := by
      rw [List.any_eq_false]
      intro y hy
      obtain ⟨z, t, hkey⟩ := hk y (Array.mem_toList_iff.mp hy)
      simp [DictEntry.refKey, hkey]
    have a' : ¬ es.toList.any (·.refKey) = true := by rw [a]; exact Bool.false_ne_true
    rw [if_neg a']
    exact congrArg some e
theorem ObjM.look {h : Heap} {x dx C : Addr} {mA : Str → Option Value} (I : ObjM h x dx C mA) : ∃ od, PySem.W.InstAt h x (PySem.W.instObj C dx) C (some od) ∧ ∀ name, PySem.W.lookIn name od = some (mA name) :=
  let ⟨od, ho, hl⟩ := lookIn_ns I.ns
  ⟨od, ⟨I.obj, rfl, rfl, ho⟩, hl⟩
section
variable {prog : Program} {w : World} {A : Around} {E : Value → Shared → Prop} {s : Shared} {K : PySem.W.Frag} {x dx C f : Addr} {mA : Str → Option Value} {name : Str} {v : Value}
theorem get_map {expr : Bool} {Q : Value → Shared → Prop} (X : K.In s.heap) (I : ObjM s.heap x dx C mA) (hg : PySem.W.plainGet K C name = true) (hh : PySem.W.hasDictIn K C = true)
    (ha : PySem.W.findIn K (.ref C) name = some none) (hv : mA name = some v) (hv' : PySem.W.handedIn v = true) (h : Q v { s with toks := s.toks + 1 }) :
    wpAny (model prog w) A (getAttr (.ref x) name expr) Q E s := by
  obtain ⟨od, J, hl⟩ := I.look
  exact PySem.W.get_value X J (PySem.W.plainGet_of hg).1 (PySem.W.findObj_own hh ha rfl (by rw [hl, hv])) hv' h
theorem set_map {ns : List Str} {Q : Unit → Shared → Prop} (X : K.In s.heap) (I : ObjM s.heap x dx C mA)
    (hs : PySem.W.findIn K (.ref C) "__setattr__" = some (some (.builtin "object.__setattr__"))) (hp : PySem.W.plainOver K C = true) (ht : PySem.W.takerIn K C name = some none) (hh : PySem.W.hasDictIn K C = true)
    (hw : PySem.Within mA ns) (hsz : ns.length ≤ sizeLine)
    (h : ∀ h', ObjM h' x dx C (fun y => if y = name then some v else mA y) → Heap.SameBut dx s.heap h' → Q () { s with heap := h', toks := s.toks + 2 }) :
    wpAny (model prog w) A (setAttr (.ref x) name v) Q E s := by
  obtain ⟨od, J, hl⟩ := I.look
  refine PySem.W.set_plain X J hs (PySem.W.osa_open (s := { s with toks := s.toks + 1 }) (r := none) X J hp ht fun b => ?_)
  obtain ⟨cd, hc, hd'⟩ := PySem.W.any_some hh
  have hx : s.heap.get? x = some ⟨.ref C, some dx, .plain, #[]⟩ := I.obj
  refine wpAny_bind (wpAny_pure (wpAny_bind (wpAny_bind (wpAny_loadPart hx (wpAny_bind (PySem.W.Looks.here (s := { s with toks := s.toks + 1 }) (PySem.W.looks_clsIn X hc) ?_))))))
  rw [hd']
  refine wpAny_pure (a := some dx) (wpAny_bind (wpAny_pure (wpAny_bind ?_)))
  refine wpAny_nsSet1 (s := { s with toks := s.toks + 1 }) I.ns fun h' hn2 hs2 => ?_
  obtain ⟨oD, esD, epD, hoD, hdD, hcD⟩ := hn2.count (PySem.Within.cons name v hw)
  refine wpAny_bind (wpAny_lookBehind hoD (by rw [hdD]; exact pastItsLine_dict (Nat.le_trans hcD (by rw [List.length_cons]; omega))) ?_)
  exact wpAny_pure (h _ ⟨(hs2.2 _ (Ne.symm I.ne)).trans I.obj, hn2, I.ne⟩ hs2)
theorem make_map {R : Result → Shared → Prop} {vs : List Value} {kw : List (Str × Value)} (X : K.In s.heap) (hm : PySem.W.makesIn K C = true)
    (hi : PySem.W.findIn K (.ref C) "__init__" = some (some (.ref f))) (hf : PySem.W.typeIn K (.ref f) = some (.type "function"))
    (h : codeAny (model prog w) (A.under (.builtin "type.__call__" ⟨.ref C :: vs, kw⟩)) (.call (.ref f) ⟨.ref (s.heap.objs.size + 1) :: vs, kw⟩) (PySem.W.InitBack (s.heap.objs.size + 1) R)
      { s with heap := (s.heap.push PySem.W.emptyDict).push (PySem.W.instObj C s.heap.objs.size) }) :
    codeAny (model prog w) A (.call (.ref C) ⟨vs, kw⟩) R s := by
  obtain ⟨hh, g, d, t, os⟩ := s
  exact PySem.W.make_core (PySem.W.makes_of X hm) (PySem.W.looks_findIn X hi) (fun self => PySem.W.bind_fn X self hf) (.inl rfl) h
end
def putF (f : Str) (v : V) : List (Str × V) → List (Str × V)
  | [] => [(f, v)]
  | (g, x) :: r => if g = f then (g, v) :: r else (g, x) :: putF f v r
theorem lookup_putF (f g : Str) (v : V) : ∀ fs : List (Str × V), (putF f v fs).lookup g = if g = f then some v else fs.lookup g
  | [] => by
    show List.lookup g [(f, v)] = _
    by_cases h : g = f
    · have hb : (g == f) = true := beq_iff_eq.mpr h
      simp only [List.lookup, hb, if_pos h]
    · have hb : (g == f) = false := beq_eq_false_iff_ne.mpr h
      simp only [List.lookup, hb, if_neg h]
  | (k, x) :: r => by
    have ih := lookup_putF f g v r
    rw [show putF f v ((k, x) :: r) = (if k = f then (k, v) :: r else (k, x) :: putF f v r) from rfl]
    by_cases hk : k = f
    · rw [if_pos hk]
      by_cases h : g = k
      · have hb : (g == k) = true := beq_iff_eq.mpr h
        simp only [List.lookup, hb, if_pos (h.trans hk)]
      · have hb : (g == k) = false := beq_eq_false_iff_ne.mpr h
        simp only [List.lookup, hb, if_neg (fun e : g = f => h (e.trans hk.symm))]
    · rw [if_neg hk]
      by_cases h : g = k
      · have hb : (g == k) = true := beq_iff_eq.mpr h
        simp only [List.lookup, hb, if_neg (fun e : g = f => hk (h.symm.trans e))]
      · have hb : (g == k) = false := beq_eq_false_iff_ne.mpr h
        simp only [List.lookup, hb]
        exact ih
theorem keys_putF (f : Str) (v : V) : ∀ fs : List (Str × V), f ∈ (putF f v fs).map (·.1) ∧ ∀ g, g ∈ fs.map (·.1) → g ∈ (putF f v fs).map (·.1)
  | [] => ⟨by simp [putF], fun g h => by simp at h⟩
  | (k, x) :: r => by
    obtain ⟨i1, i2⟩ := keys_putF f v r
    rw [show putF f v ((k, x) :: r) = (if k = f then (k, v) :: r else (k, x) :: putF f v r) from rfl]
    by_cases hk : k = f
    · rw [if_pos hk]
      subst hk
      exact ⟨by simp, fun g h => by simpa using h⟩
    · rw [if_neg hk]
      refine ⟨?_, fun g h => ?_⟩
      · rw [List.map_cons]
        exact List.mem_cons_of_mem _ i1
      · rw [List.map_cons] at h ⊢
        rcases List.mem_cons.mp h with e | e
        · exact List.mem_cons.mpr (.inl e)
        · exact List.mem_cons_of_mem _ (i2 g e)
theorem length_putF (f : Str) (v : V) : ∀ fs : List (Str × V), (putF f v fs).length ≤ fs.length + 1
  | [] => by simp [putF]
  | (k, x) :: r => by
    have ih := length_putF f v r
    rw [show putF f v ((k, x) :: r) = (if k = f then (k, v) :: r else (k, x) :: putF f v r) from rfl]
    by_cases hk : k = f
    · rw [if_pos hk, List.length_cons, List.length_cons]; omega
    · rw [if_neg hk, List.length_cons, List.length_cons]; omega
theorem RelO.some_of {v : V} {o : Option Value} (r : RelO (some v) o) : ∃ u, o = some u ∧ RelV v u := by
  cases o with
  | none => exact (show False from r).elim
  | some u => exact ⟨u, rfl, r⟩
theorem handed_of {v : V} {u : Value} (r : RelV v u) : PySem.W.handedIn u = true := by
  cases v with
  | non => cases (show u = Value.none from r); rfl
  | bl b => cases (show u = Value.bool b from r); rfl
  | int i => obtain ⟨t, e⟩ := (show ∃ t, u = Value.int i t from r); cases e; rfl
  | str x => obtain ⟨t, e⟩ := (show ∃ t, u = Value.str x t from r); cases e; rfl
  | byt b => obtain ⟨t, e⟩ := (show ∃ t, u = Value.bytes b t from r); cases e; rfl
  | flt b => obtain ⟨t, e⟩ := (show ∃ t, u = Value.float b t from r); cases e; rfl
  | ref a => cases (show u = Value.ref a from r); rfl
  | ty n => cases (show u = Value.type n from r); rfl
section
variable {P : Program} {w : World} {H H' : Hp} {h h' : Heap} {a C dx : Addr} {fs fs' : List (Str × V)}
theorem ins_get (hok : HOk P w H h) (e : H a = some (.ins C dx fs)) : ∃ mA, ObjM h a dx C mA ∧ (∀ f, RelO (fs.lookup f) (mA f)) ∧ PySem.Within mA (fs.map (·.1)) ∧ fs.length ≤ 1000 ∧ H dx = some (.own a) := by
  obtain ⟨d, z, ne, ob, mA, n, r, q⟩ := (show ObjOk P w H h a (.ins C dx fs) from hok a _ e)
  exact ⟨mA, ⟨ob, n, ne⟩, r, q, z, d⟩
end
structure Cls (K : PySem.W.Frag) (C : Addr) : Prop where
  pg : PySem.W.plainGet K C Str.empty = true
  hd : PySem.W.hasDictIn K C = true
  po : PySem.W.plainOver K C = true
  sa : PySem.W.findIn K (.ref C) "__setattr__" = some (some (.builtin "object.__setattr__"))
theorem Cls.get {K : PySem.W.Frag} {C : Addr} (c : Cls K C) (f : Str) : PySem.W.plainGet K C f = true := c.pg
def NoAttr (K : PySem.W.Frag) (C : Addr) (f : Str) : Prop := PySem.W.findIn K (.ref C) f = some none
theorem NoAttr.taker {K : PySem.W.Frag} {C : Addr} {f : Str} (n : NoAttr K C f) : PySem.W.takerIn K C f = some none := by
  unfold PySem.W.takerIn
  rw [show PySem.W.findIn K (.ref C) f = some none from n]
  rfl
section
variable {X : Cx} {pins : List (Addr × Obj)} {σ : St} {H : Hp} {s : Shared} {a C dx : Addr} {fs : List (Str × V)} {f : Str} {v : V} {A : Around} {E : Value → Shared → Prop}
theorem getattr_ok {b : Bool} {Q : Value → Shared → Prop} (I : Inv X pins σ H s) (e : H a = some (.ins C dx fs)) (c : Cls X.K C) (n : NoAttr X.K C f) (l : fs.lookup f = some v)
    (h : ∀ u s', Inv X pins σ H s' → RelV v u → Q u s') : wpAny (model X.prog X.w) A (getAttr (.ref a) f b) Q E s := by
  obtain ⟨mA, O, r, _, _, _⟩ := ins_get I.hok e
  obtain ⟨u, hu, ru⟩ := RelO.some_of (v := v) (o := mA f) (by rw [← l]; exact r f)
  exact get_map I.kIn O (c.get f) c.hd n hu (handed_of ru) (h u _ (I.tok _) ru)
theorem setattr_ok {y : V} {u : Value} {Q : Unit → Shared → Prop} (I : Inv X pins σ H s) (e : H a = some (.ins C dx fs)) (c : Cls X.K C) (n : NoAttr X.K C f) (hl : fs.length < 1000) (ry : RelV y u)
    (h : ∀ s', Inv X pins σ (upd H a (.ins C dx (putF f y fs))) s' → Q () s') : wpAny (model X.prog X.w) A (setAttr (.ref a) f u) Q E s := by
  obtain ⟨mA, O, r, wi, _, ho⟩ := ins_get I.hok e
  have hz : (fs.map (·.1)).length ≤ sizeLine := by rw [List.length_map, sizeLine_eq]; omega
  refine set_map I.kIn O c.sa c.po n.taker c.hd wi hz fun h' O' sb => h _ ?_
  have hd : ∃ o, h'.get? dx = some o := let ⟨o, _, _, e', _⟩ := O'.ns; ⟨o, e'⟩
  refine I.write (x := a) (e := dx) (by rw [e]; exact True.intro) (.inr ho) (fun b q hb z => (sb.2 b hb).trans z) hd ?_
  refine ⟨by rw [upd_ne O.ne]; exact ho, ?_, O.ne, O'.obj, _, O'.ns, fun g => ?_, fun g hg => ?_⟩
  · have := length_putF f y fs; omega
  · show RelO ((putF f y fs).lookup g) (if g = f then some u else mA g)
    rw [lookup_putF]
    by_cases q : g = f
    · rw [if_pos q, if_pos q]; exact ry
    · rw [if_neg q, if_neg q]; exact r g
  · by_cases q : g = f
    · rw [q]; exact (keys_putF f y fs).1
    · refine (keys_putF f y fs).2 g (wi g fun z => hg ?_)
      show (if g = f then some u else mA g) = none
      rw [if_neg q]; exact z
theorem Inv.made (I : Inv X pins σ H s) : Inv X pins σ (upd (upd H s.heap.objs.size (.own (s.heap.objs.size + 1))) (s.heap.objs.size + 1) (.ins C s.heap.objs.size []))
    { s with heap := (s.heap.push PySem.W.emptyDict).push (PySem.W.instObj C s.heap.objs.size) } := by
  have e1 : (s.heap.push PySem.W.emptyDict).get? s.heap.objs.size = some PySem.W.emptyDict := Heap.get?_push_size s.heap rfl
  have e2 : ((s.heap.push PySem.W.emptyDict).push (PySem.W.instObj C s.heap.objs.size)).get? (s.heap.objs.size + 1) = some (PySem.W.instObj C s.heap.objs.size) := by
    have := Heap.get?_push_size (s.heap.push PySem.W.emptyDict) (o := PySem.W.instObj C s.heap.objs.size) rfl
    rwa [Heap.size_push] at this
  have e3 : (s.heap.push PySem.W.emptyDict).Ns s.heap.objs.size (fun _ => none) := ⟨PySem.W.emptyDict, #[], _, e1, rfl, (fun e he => absurd he (by simp)), fun _ => rfl⟩
  have I1 := I.laid (a := s.heap.objs.size) (o := .own (s.heap.objs.size + 1)) (h' := s.heap.push PySem.W.emptyDict) (t' := s.toks) (fun b u q => Heap.get?_push_of_some _ q) (Nat.le_refl _) ⟨_, e1⟩
  refine I1.laid (a := s.heap.objs.size + 1) (o := .ins C s.heap.objs.size []) (t' := s.toks) (fun b u q => Heap.get?_push_of_some _ q) (Nat.le_of_eq (Heap.size_push _ _)) ?_
  have ne : s.heap.objs.size ≠ s.heap.objs.size + 1 := Nat.ne_of_lt (Nat.lt_succ_self _)
  refine ⟨by rw [upd_ne ne, upd_same], Nat.zero_le _, ne, e2, fun _ => none, (Heap.Ns1.of_empty e3).at fun o q => Heap.get?_push_of_some _ q, fun _ => True.intro, fun y hy => absurd rfl hy⟩
theorem attr_of {prog : Program} {w : World} {env : Env} {e : Expr} {f : Str} {pos : Pos} {s : Shared} {Q : Value → Shared → Prop} (hb : attributeBase e f env (eval e env) = eval e env)
    (h : wpAny (model prog w) A (eval e env) (fun o s₁ => wpAny (model prog w) A (getAttr o f true) Q E s₁) E s) : wpAny (model prog w) A (eval (.Attribute e f pos) env) Q E s :=
  Attribute_any_ h (by rw [arm_eval_Attribute, hb])
end
def tFld (K : PySem.W.Frag) (ta : TE) (f : Str) : TE := fun σ H Q => ta σ H fun x H1 => ∃ a C dx fs v, x = .ref a ∧ H1 a = some (.ins C dx fs) ∧ Cls K C ∧ NoAttr K C f ∧ fs.lookup f = some v ∧ Q v H1
def sFld (K : PySem.W.Frag) (ta tv : TE) (f : Str) : TS := fun D σ H => tv σ H fun y H1 => ta σ H1 fun x H2 => ∃ a C dx fs, x = .ref a ∧ H2 a = some (.ins C dx fs) ∧ Cls K C ∧ NoAttr K C f ∧ fs.length < 1000 ∧
  D.nx σ (upd H2 a (.ins C dx (putF f y fs)))
section
variable {X : Cx} {o e value : Expr} {f : Str} {pos pos' tpos : Pos} {ta tv : TE}
theorem pe_fld (he : PE X e ta) (hb : attributeBase e f X.env (eval e X.env) = eval e X.env) : PE X (.Attribute e f pos) (tFld X.K ta f) := by
  intro pins s σ H Q I h
  refine attr_of hb (thnE (he pins s σ H _ I h) fun u s1 x H1 I1 rx ⟨a, C, dx, fs, v, ex, ea, c, n, l, q⟩ => ?_)
  subst ex
  obtain rfl : u = Value.ref a := rx
  exact getattr_ok I1 ea c n l fun u' s2 I2 ru => ⟨v, H1, I2, ru, q⟩
theorem ps_fld (ha : PE X o ta) (hv : PE X value tv) (hs : swapsWith value (some (.Attribute o f pos')) pos.line X.env = pure false) : PS X (.Assign [.Attribute o f pos'] value pos) (sFld X.K ta tv f) := by
  intro pins s σ H D I h
  refine plainObj_wpAny_Assign_Attribute (thnE (hv pins s σ H _ I h) fun u s1 y H1 I1 ry q => thnE (ha pins s1 σ H1 _ I1 q) fun ov s2 x H2 I2 rx ⟨a, C, dx, fs, ex, ea, c, n, l, q2⟩ => ?_) hs
  subst ex
  obtain rfl : ov = Value.ref a := rx
  exact setattr_ok I2 ea c n l ry fun s3 I3 => ⟨σ, _, I3, q2⟩
end
section
variable {X : Cx} {pins : List (Addr × Obj)} {σ : St} {H : Hp} {s : Shared} {A : Around} {E : Value → Shared → Prop} {Q : Value → Shared → Prop} {c : Value} {b : Bool}
inductive TyOf (K : PySem.W.Frag) (H : Hp) : V → Value → Prop where
  | non : TyOf K H .non (.type "NoneType")
  | bl (x : Bool) : TyOf K H (.bl x) (.type "bool")
  | int (i : Int) : TyOf K H (.int i) (.type "int")
  | str (x : Str) : TyOf K H (.str x) (.type "str")
  | flt (x : UInt64) : TyOf K H (.flt x) (.type "float")
  | lst {a : Addr} {xs : List V} (e : H a = some (.lst xs)) : TyOf K H (.ref a) (.type "list")
  | frz {a : Addr} {o : Obj} {xs : List V} (e : H a = some (.frz o (.lst xs))) : TyOf K H (.ref a) (.type "list")
  | tup {a : Addr} {xs : List V} (e : H a = some (.tup xs)) : TyOf K H (.ref a) (.type "tuple")
  | dK {a : Addr} {kvs : List (Key × V)} (e : H a = some (.dK kvs)) : TyOf K H (.ref a) (.type "dict")
  | dT {a : Addr} {kvs : List (List Key × V)} (e : H a = some (.dT kvs)) : TyOf K H (.ref a) (.type "dict")
  | ins {a C dx : Addr} {fs : List (Str × V)} (e : H a = some (.ins C dx fs)) (cl : Cls K C) (ha : PySem.W.findIn K (.ref C) "__class__" = some (some (.builtin "object.__class__")))
      (hn : PySem.W.specialIn K (.builtin "object.__class__") "__get__" = some (some (.builtin "getset_descriptor.__get__"))) (htk : PySem.W.takesIn K (.builtin "object.__class__") = some true)
      (hm : PySem.W.mroIn K C (.type "object") = some true) : TyOf K H (.ref a) (.ref C)
theorem isinst_ok {x : V} {u t : Value} (I : Inv X pins σ H s) (rx : RelV x u) (ty : TyOf X.K H x t) (e : PySem.W.kitOne X.K t c = some b) (h : ∀ tk, Q (.bool b) { s with toks := tk }) :
    wpAny (model X.prog X.w) A (call (.builtin "isinstance") [u, c]) Q E s := by
  cases ty with
  | non => cases (show u = Value.none from rx); exact PySem.W.kia_one PySem.W.kitx_none I.kIn True.intro e (fun z => nomatch z) h
  | bl y => cases (show u = Value.bool y from rx); exact PySem.W.kia_one PySem.W.kitx_bool I.kIn True.intro e (fun z => nomatch z) h
  | int i => obtain ⟨t, q⟩ := (show ∃ t, u = Value.int i t from rx); cases q; exact PySem.W.kia_one PySem.W.kitx_int I.kIn True.intro e (fun z => nomatch z) h
  | str y => obtain ⟨t, q⟩ := (show ∃ t, u = Value.str y t from rx); cases q; exact PySem.W.kia_one PySem.W.kitx_str I.kIn True.intro e (fun z => nomatch z) h
  | flt y => obtain ⟨t, q⟩ := (show ∃ t, u = Value.float y t from rx); cases q; exact PySem.W.kia_one PySem.W.kitx_float I.kIn True.intro e (fun z => nomatch z) h
  | @lst a xs ea =>
    cases (show u = Value.ref a from rx)
    obtain ⟨_, _, n, _, h1⟩ := (show ObjOk X.prog X.w H s.heap a (.lst xs) from I.hok a _ ea)
    exact PySem.W.kia_one PySem.W.kitx_list I.kIn ⟨_, h1, rfl⟩ e (fun z => nomatch z) h
  | @frz a ob xs ea =>
    cases (show u = Value.ref a from rx)
    obtain ⟨_, _, _, n, _, h1⟩ := (show ObjOk X.prog X.w H s.heap a (.frz ob (.lst xs)) from I.hok a _ ea)
    exact PySem.W.kia_one PySem.W.kitx_list I.kIn ⟨_, h1, rfl⟩ e (fun z => nomatch z) h
  | @tup a xs ea =>
    cases (show u = Value.ref a from rx)
    obtain ⟨_, _, _, p⟩ := (show ObjOk X.prog X.w H s.heap a (.tup xs) from I.hok a _ ea)
    obtain ⟨o, h1, h2, _⟩ := p
    exact PySem.W.kia_one PySem.W.kitx_tuple I.kIn ⟨o, h1, h2⟩ e (fun z => nomatch z) h
  | @dK a kvs ea =>
    cases (show u = Value.ref a from rx)
    obtain ⟨_, _, vs, _, p⟩ := (show ObjOk X.prog X.w H s.heap a (.dK kvs) from I.hok a _ ea)
    obtain ⟨o, es, ep, h1, h2, _⟩ := p
    exact PySem.W.kia_one PySem.W.kitx_dict I.kIn ⟨o, h1, h2.1⟩ e (fun z => nomatch z) h
  | @dT a kvs ea =>
    cases (show u = Value.ref a from rx)
    obtain ⟨_, _, xs, _, o, es, ep, h1, h2, _⟩ := (show ObjOk X.prog X.w H s.heap a (.dT kvs) from I.hok a _ ea)
    exact PySem.W.kia_one PySem.W.kitx_dict I.kIn ⟨o, h1, h2.1⟩ e (fun z => nomatch z) h
  | @ins a C dx fs ea cl ha hn htk hm =>
    cases (show u = Value.ref a from rx)
    obtain ⟨mA, O, _⟩ := ins_get I.hok ea
    obtain ⟨od, J, _⟩ := O.look
    exact PySem.W.kia_one (PySem.W.kitx_own (cl.get _) cl.hd ha hn htk hm) I.kIn J e (fun z => nomatch z) h
end
end L2
namespace L2
open PySem PySem.Spec PyProof.Rows
structure Room (k : Nat) (A : Around) : Prop where
  hd : A.handled = none
  dp : A.depth + 3 * k + 5 < recursionLimit
  un : A.units + 16 * k + 200 < cLine
theorem Room.mono {j k : Nat} {A : Around} (r : Room k A) (h : j ≤ k) : Room j A := ⟨r.hd, by have := r.dp; omega, by have := r.un; omega⟩
theorem Room.deeper {k : Nat} {A : Around} (r : Room (k + 1) A) (env : Env) : Room k (A.deeper env) :=
  ⟨r.hd, by have := r.dp; show A.depth + 1 + 3 * k + 5 < _; omega, by have := r.un; show A.units + 3 + 16 * k + 200 < _; omega⟩
theorem make_depth {A : Around} {C : Addr} {us : List Value} {kw : List (Str × Value)} : (A.under (.builtin "type.__call__" ⟨.ref C :: us, kw⟩)).depth = A.depth + 1 := by
  first | rfl | simp [Around.under, Code.weight, Code.isCreation, Code.isGuard, Code.isCaller, Code.frames, Code.isFrame, guardIds]
theorem make_units {A : Around} {C : Addr} {us : List Value} {kw : List (Str × Value)} : (A.under (.builtin "type.__call__" ⟨.ref C :: us, kw⟩)).units = A.units + 1 := by
  first | rfl | simp [Around.under, Code.cUnits, Code.frames, Code.isFrame]
theorem Room.make {k : Nat} {A : Around} (r : Room (k + 1) A) (C : Addr) (us : List Value) (kw : List (Str × Value)) : Room k (A.under (.builtin "type.__call__" ⟨.ref C :: us, kw⟩)) :=
  ⟨r.hd, by have := r.dp; rw [make_depth]; omega, by have := r.un; rw [make_units]; omega⟩
theorem Room.depth {k : Nat} {A : Around} (r : Room k A) : A.depth < recursionLimit := by have := r.dp; omega
theorem Room.units {k : Nat} {A : Around} (r : Room k A) : A.units + 64 < cLine := by have := r.un; omega
def tNil : TA := fun _ H Q => Q [] H
def tCons (ta : TE) (tr : TA) : TA := fun σ H Q => ta σ H fun x H1 => tr σ H1 fun xs H2 => Q (x :: xs) H2
section
variable {X : Cx} {e : Expr} {es : List Expr} {te : TE} {t : TA} {pos : Pos}
theorem pa_nil : PA X [] tNil := fun _ _ _ _ H Q I h => Calls.spliced_nil ⟨[], H, I, .nil, h⟩
theorem pa_cons (ha : PE X e te) (hr : PA X es t) (hs : starEach (e :: es) X.env = (false, eval e X.env) :: starEach es X.env := by rfl) : PA X (e :: es) (tCons te t) := by
  intro pos pins s σ H Q I h
  rw [hs]
  show wpAny _ _ (spliced ((false, eval e X.env) :: backTo pos (starEach es X.env))) _ _ s
  refine Calls.spliced_cons (thnE (ha pins s σ H _ I h) fun u s1 x H1 I1 r1 q1 => ?_)
  exact thnA (hr pos pins s1 σ H1 _ I1 q1) fun us s2 xs H2 I2 r2 q2 => ⟨x :: xs, H2, I2, .cons r1 r2, q2⟩
def tTup (t : TA) : TE := fun σ H Q => t σ H fun xs H1 => xs.length ≤ sizeLine ∧ ∀ p, H1 p = none → Q (.ref p) (upd H1 p (.tup xs))
def tLst (t : TA) : TE := fun σ H Q => t σ H fun xs H1 => xs.length ≤ sizeLine ∧ ∀ p, H1 p = none → Q (.ref p) (upd H1 p (.lst xs))
theorem pe_tup {x1} (h : PA X es t) : PE X (.Tuple es x1 pos) (tTup t) := by
  intro pins s σ H Q I hq
  refine wpAny_Tuple_spliced (thnA (h pos pins s σ H _ I hq) fun us s1 xs H1 I1 r ⟨z, q⟩ => ⟨by rw [← r.length]; exact z, ?_⟩)
  have hf : H1 s1.heap.objs.size = none := I1.hok.fresh (Nat.le_refl _)
  refine ⟨.ref s1.heap.objs.size, upd H1 s1.heap.objs.size (.tup xs), I1.laid (t' := s1.toks) (fun b u e => Heap.get?_push_of_some _ e) (Nat.le_refl _) ?_, rfl, q _ hf⟩
  exact ⟨z, us, r, ⟨_, Heap.get?_push_size _ rfl, rfl, _, rfl⟩⟩
theorem pe_lst (h : PA X es t) : PE X (.List es pos) (tLst t) := by
  intro pins s σ H Q I hq
  refine wpAny_List_spliced (thnA (h pos pins s σ H _ I hq) fun us s1 xs H1 I1 r ⟨z, q⟩ => ⟨by rw [← r.length]; exact z, ?_⟩)
  have hf : H1 s1.heap.objs.size = none := I1.hok.fresh (Nat.le_refl _)
  refine ⟨.ref s1.heap.objs.size, upd H1 s1.heap.objs.size (.lst xs), I1.laid (t' := s1.toks) (fun b u e => Heap.get?_push_of_some _ e) (Nat.le_refl _) ?_, rfl, q _ hf⟩
  exact ⟨z, us, 0, r, Heap.get?_push_size _ rfl⟩
end
abbrev Sp := List V → Hp → VK → XK → Prop
abbrev CXT := List Env → Hp → Shared → XK → Value → Shared → Prop
structure Env0 (P : Program) (w : World) (K : PySem.W.Frag) (mg : Str → Option Value) (base : Heap) (A : Around) (outer : List Env) (s : Shared) (H : Hp) : Prop where
  frames : A.frames = some outer
  mod : Mod K mg base
  bs : ∀ b o, base.get? b = some o → s.heap.get? b = some o ∧ H b = none
  bsz : base.objs.size ≤ s.heap.objs.size
  funs : s.heap.FunFrames base outer
  frf : ∀ b ∈ frs outer, H b = none
  hok : HOk P w H s.heap
  bare : AllBare s.gens
def CE (outer : List Env) (P : Program) (w : World) (H : Hp) (s : Shared) (Q : VK) (u : Value) (s' : Shared) : Prop :=
  ∃ v H', s'.os = s.os ∧ AllBare s'.gens ∧ Un (frs outer) [] H H' s.heap s'.heap ∧ HOk P w H' s'.heap ∧ RelV v u ∧ Q v H'
def CR (CX : CXT) (outer : List Env) (P : Program) (w : World) (H : Hp) (s : Shared) (Q : VK) (E : XK) (r : Result) (s' : Shared) : Prop :=
  match r with
  | .ok (.ret u) => CE outer P w H s Q u s'
  | .ok _ => False
  | .error e => CX outer H s E e s'
structure FnOk (P : Program) (w : World) (K : PySem.W.Frag) (mg : Str → Option Value) (base : Heap) (CX : CXT) (k : Nat) (f : Addr) (fd : FuncData) (ps : List Str) (sp : Sp) : Prop where
  len : ∀ vs H Q E, sp vs H Q E → vs.length = ps.length
  run : ∀ (A : Around) (outer : List Env) (s : Shared) (H : Hp) (args : Args) (us : List Value) (vs : List V) (Q : VK) (E : XK), Room k A → Env0 P w K mg base A outer s H → BindsTo s fd args (ps.zip us) → Vals vs us → sp vs H Q E →
    codeAny (model P w) A (.call (.ref f) args) (CR CX outer P w H s Q E) s
theorem Env0.make {P : Program} {w : World} {K : PySem.W.Frag} {mg : Str → Option Value} {base : Heap} {A : Around} {outer : List Env} {s : Shared} {H : Hp} (e : Env0 P w K mg base A outer s H) (C : Addr) (us : List Value) (kw : List (Str × Value)) :
    Env0 P w K mg base (A.under (.builtin "type.__call__" ⟨.ref C :: us, kw⟩)) outer s H := ⟨by first | exact e.frames | (simpa [Around.under, Code.envs, Code.isFrame, pushEnvs] using e.frames), e.mod, e.bs, e.bsz, e.funs, e.frf, e.hok, e.bare⟩
section
variable {X : Cx} {pins : List (Addr × Obj)} {σ : St} {H : Hp} {s s' : Shared}
theorem Inv.env0 (I : Inv X pins σ H s) : Env0 X.prog X.w X.K X.mg X.base X.A X.stack s H :=
  ⟨I.ok.frames, I.ok.mod, I.bs, Nat.le_trans I.ok.bsz I.sz, I.stack, I.stkFree, I.hok, I.bare⟩
theorem Inv.after {Q : VK} {u : Value} (I : Inv X pins σ H s) (h : CE X.stack X.prog X.w H s Q u s') : EP X pins σ Q u s' := by
  obtain ⟨v, H', os, bare, un, hok, r, q⟩ := h
  obtain ⟨hh, g, d, t, os'⟩ := s'
  obtain rfl : os' = s.os := os
  exact ⟨v, H', I.call (h' := hh) (g' := g) (d' := d) (t' := t) (ch := []) un hok bare (fun b z => absurd z (by simp)), r, q⟩
end
def tCall (sp : Sp) (dvs : List V) (E : XK) (t : TA) : TE := fun σ H Q => t σ H fun vs H1 => sp (vs ++ dvs) H1 Q E
def tMake (C : Addr) (sp : Sp) (dvs : List V) (E : XK) (t : TA) : TE := fun σ H Q => t σ H fun vs H1 => ∀ x dx, H1 x = none → H1 dx = none → dx ≠ x →
  sp (.ref x :: (vs ++ dvs)) (upd (upd H1 dx (.own x)) x (.ins C dx [])) (fun v H2 => v = .non ∧ Q (.ref x) H2) E
def Binds (K : PySem.W.Frag) (fd : FuncData) (ps : List Str) (ds : List Value) : Prop :=
  ∀ (s : Shared) (us : List Value), K.In s.heap → (us ++ ds).length = ps.length → BindsTo s fd ⟨us, []⟩ (ps.zip (us ++ ds))
theorem Binds.all {K : PySem.W.Frag} {fd : FuncData} {ps : List Str} (h : ∀ us : List Value, us.length = ps.length → bindArgs fd ⟨us, []⟩ = pure (ps.zip us)) : Binds K fd ps [] := fun s us _ hl => by
  rw [List.append_nil] at hl ⊢
  exact .of_eq (h us hl)
def Passes (CX : CXT) (X : Cx) (E : XK) : Prop := ∀ (pins : List (Addr × Obj)) (σ : St) (H : Hp) (s : Shared) (e : Value) (s' : Shared), Inv X pins σ H s → CX X.stack H s E e s' → X.xe e s'
section
variable {X : Cx} {CX : CXT} {k : Nat} {f C : Addr} {fd : FuncData} {ps : List Str} {sp : Sp} {dvs : List V} {ds : List Value} {E : XK} {x m : Str} {p pos apos : Pos} {e o : Expr} {es : List Expr} {ta : TE} {t : TA}
theorem run_fn {pins : List (Addr × Obj)} {σ : St} {H : Hp} {s : Shared} {Q : VK} {us : List Value} {vs : List V} (F : FnOk X.prog X.w X.K X.mg X.base CX k f fd ps sp) (hr : Room k X.A) (hb : Binds X.K fd ps ds) (hd : Vals dvs ds) (hx : Passes CX X E)
    (I : Inv X pins σ H s) (r : Vals vs us) (h : sp (vs ++ dvs) H Q E) : wpAny (model X.prog X.w) X.A (call (.ref f) us) (EP X pins σ Q) X.xe s := by
  have r2 : Vals (vs ++ dvs) (us ++ ds) := r.append hd
  have hl : (us ++ ds).length = ps.length := by rw [← r2.length]; exact F.len _ _ _ _ h
  refine wpAny_call (codeAny_mono (F.run X.A X.stack s H ⟨us, []⟩ (us ++ ds) (vs ++ dvs) Q E hr I.env0 (hb s us I.kIn hl) r2 h) fun r s' hq => ?_)
  cases r with
  | error e => exact hx pins σ H s e s' I hq
  | ok fl =>
    cases fl with
    | ret u => exact I.after hq
    | next => exact False.elim hq
    | brk => exact False.elim hq
    | cont => exact False.elim hq
theorem pe_call (F : FnOk X.prog X.w X.K X.mg X.base CX k f fd ps sp) (hr : Room k X.A) (hg : Gl X x) (hm : X.mg x = some (.ref f)) (hk : PySem.W.keepIn X.K (.ref f) = true) (hb : Binds X.K fd ps ds) (hd : Vals dvs ds) (hx : Passes CX X E)
    (ha : PA X (e :: es) t) (hdb : (x == ("__debug__" : Str)) = false := by decide) (he : starEach (e :: es) X.env = (false, eval e X.env) :: starEach es X.env := by rfl) (hpl : (backTo pos (starEach es X.env)).any (·.1) = false := by rfl) :
    PE X (.Call (.Name x p) (e :: es) [] pos) (tCall sp dvs E t) := by
  intro pins s σ H Q I h
  refine wpAny_Call_Name_kw (ld_glob I hg hm ?_ hdb)
  refine PySem.W.callWith_K (h₀ := X.base) I.ok.mod.kin hk (thnA (ha pos pins s σ H _ I h) fun us s1 vs H1 I1 r q => ⟨I1.kIn, ?_⟩) he hpl
  exact run_fn F hr hb hd hx I1 r q
structure Mk (K : PySem.W.Frag) (C f : Addr) : Prop where
  makes : PySem.W.makesIn K C = true
  init : PySem.W.findIn K (.ref C) "__init__" = some (some (.ref f))
  fn : PySem.W.isFn K (.ref f) = true
  kp : PySem.W.keepIn K (.ref C) = true
theorem run_make {pins : List (Addr × Obj)} {σ : St} {H : Hp} {s : Shared} {Q : VK} {us : List Value} {vs : List V} (M : Mk X.K C f) (F : FnOk X.prog X.w X.K X.mg X.base CX k f fd ps sp) (hr : Room (k + 1) X.A) (hb : Binds X.K fd ps ds) (hd : Vals dvs ds)
    (hx : Passes CX X E) (I : Inv X pins σ H s) (r : Vals vs us)
    (h : ∀ x dx, H x = none → H dx = none → dx ≠ x → sp (.ref x :: (vs ++ dvs)) (upd (upd H dx (.own x)) x (.ins C dx [])) (fun v H2 => v = .non ∧ Q (.ref x) H2) E) :
    wpAny (model X.prog X.w) X.A (call (.ref C) us) (EP X pins σ Q) X.xe s := by
  have hq := h (s.heap.objs.size + 1) s.heap.objs.size (I.hok.fresh (Nat.le_succ _)) (I.hok.fresh (Nat.le_refl _)) (Nat.ne_of_lt (Nat.lt_succ_self _))
  have I2 := Inv.made (C := C) I
  have r2 : Vals (V.ref (s.heap.objs.size + 1) :: (vs ++ dvs)) (Value.ref (s.heap.objs.size + 1) :: (us ++ ds)) := .cons rfl (r.append hd)
  have hl : (Value.ref (s.heap.objs.size + 1) :: us ++ ds).length = ps.length := by
    have e := r2.length
    rw [F.len _ _ _ _ hq] at e
    exact e.symm
  refine wpAny_call (make_map (f := f) I.kIn M.makes M.init (beq_iff_eq.mp M.fn) (codeAny_mono (F.run _ X.stack _ _ ⟨Value.ref (s.heap.objs.size + 1) :: us, []⟩ (Value.ref (s.heap.objs.size + 1) :: (us ++ ds)) _ _ E (hr.make C us [])
    (I2.env0.make C us []) (hb _ (Value.ref (s.heap.objs.size + 1) :: us) I2.kIn hl) r2 hq) fun r s' hq' => ?_))
  cases r with
  | error e => exact hx pins σ _ _ e s' I2 hq'
  | ok fl =>
    cases fl with
    | ret u =>
      obtain ⟨v, H', I3, rv, ev, q3⟩ := I2.after hq'
      subst ev
      exact ⟨rv, ⟨V.ref (s.heap.objs.size + 1), H', I3, rfl, q3⟩⟩
    | next => exact False.elim hq'
    | brk => exact False.elim hq'
    | cont => exact False.elim hq'
theorem pe_make (M : Mk X.K C f) (F : FnOk X.prog X.w X.K X.mg X.base CX k f fd ps sp) (hr : Room (k + 1) X.A) (hg : Gl X x) (hm : X.mg x = some (.ref C)) (hb : Binds X.K fd ps ds) (hd : Vals dvs ds) (hx : Passes CX X E)
    (ha : PA X (e :: es) t) (hdb : (x == ("__debug__" : Str)) = false := by decide) (he : starEach (e :: es) X.env = (false, eval e X.env) :: starEach es X.env := by rfl) (hpl : (backTo pos (starEach es X.env)).any (·.1) = false := by rfl) :
    PE X (.Call (.Name x p) (e :: es) [] pos) (tMake C sp dvs E t) := by
  intro pins s σ H Q I h
  refine wpAny_Call_Name_kw (ld_glob I hg hm ?_ hdb)
  refine PySem.W.callWith_K (h₀ := X.base) I.ok.mod.kin M.kp (thnA (ha pos pins s σ H _ I h) fun us s1 vs H1 I1 r q => ⟨I1.kIn, ?_⟩) he hpl
  exact run_make M F hr hb hd hx I1 r q
end
section
variable {X : Cx} {CX : CXT} {k : Nat} {f C : Addr} {fd : FuncData} {ps ks : List Str} {sp : Sp} {E : XK} {x m : Str} {p pos apos kpos : Pos} {e o : Expr} {es : List Expr} {kws : List Keyword} {te ta : TE} {t tk : TA} {nm : Option Str}
variable {g : List Value → List Value → List Value} {gV : List V → List V → List V}
end
structure FnScope (N P : List Str) (sc : Scope) : Prop where
  kind : sc.kind = .function
  co : sc.isCoroutine = false
  gen : sc.isGenerator = false
  nd : N.Nodup
  pre : N.take P.length = P
  par : ∀ x ∈ P, sc.names.lookup x = some .local ∨ sc.names.lookup x = some .cell
  nofree : ∀ y ∈ sc.names, y.2 ≠ .free
theorem bindL_out {kindOf : Str → Option NameKind} {x : Str} : ∀ {binds : List (Str × Value)} {m : Str → Option Value}, (∀ v, (x, v) ∉ binds) → bindL kindOf binds m x = m x
  | [], _, _ => rfl
  | (n, v) :: r, m, h => by
    unfold bindL
    rw [bindL_out fun w hw => h w (List.mem_cons_of_mem _ hw)]
    split
    · have : x ≠ n := by rintro rfl; exact h v List.mem_cons_self
      simp [this]
    · rfl
theorem bindC_out {kindOf : Str → Option NameKind} {x : Str} : ∀ {binds : List (Str × Value)} {m : Str → Option Value}, (∀ v, (x, v) ∉ binds) → bindC kindOf binds m x = m x
  | [], _, _ => rfl
  | (n, v) :: r, m, h => by
    unfold bindC
    rw [bindC_out fun w hw => h w (List.mem_cons_of_mem _ hw)]
    split
    · rfl
    · have : x ≠ n := by rintro rfl; exact h v List.mem_cons_self
      simp [this]
theorem bindL_get {kindOf : Str → Option NameKind} {x : Str} {v : Value} : ∀ {P : List Str} {vs : List Value} {i : Nat} {m : Str → Option Value}, P.Nodup → P[i]? = some x → vs[i]? = some v → kindOf x = some .local →
    bindL kindOf (P.zip vs) m x = some v
  | [], _, _, _, _, h, _, _ => by simp at h
  | _ :: _, [], _, _, _, _, h, _ => by simp at h
  | p :: P, w :: vs, 0, m, nd, h1, h2, hk => by
    simp at h1 h2; subst h1; subst h2
    show bindL kindOf ((p, w) :: P.zip vs) m p = _
    unfold bindL
    rw [bindL_out fun v hv => (List.nodup_cons.mp nd).1 (List.of_mem_zip hv).1, if_pos hk]
    simp
  | p :: P, w :: vs, i + 1, m, nd, h1, h2, hk => by
    show bindL kindOf ((p, w) :: P.zip vs) m x = _
    unfold bindL
    exact bindL_get (i := i) (List.nodup_cons.mp nd).2 (by simpa using h1) (by simpa using h2) hk
theorem bindC_get {kindOf : Str → Option NameKind} {x : Str} {v : Value} : ∀ {P : List Str} {vs : List Value} {i : Nat} {m : Str → Option Value}, P.Nodup → P[i]? = some x → vs[i]? = some v → kindOf x ≠ some .local →
    bindC kindOf (P.zip vs) m x = some v
  | [], _, _, _, _, h, _, _ => by simp at h
  | _ :: _, [], _, _, _, _, h, _ => by simp at h
  | p :: P, w :: vs, 0, m, nd, h1, h2, hk => by
    simp at h1 h2; subst h1; subst h2
    show bindC kindOf ((p, w) :: P.zip vs) m p = _
    unfold bindC
    rw [bindC_out fun v hv => (List.nodup_cons.mp nd).1 (List.of_mem_zip hv).1, if_neg hk]
    simp
  | p :: P, w :: vs, i + 1, m, nd, h1, h2, hk => by
    show bindC kindOf ((p, w) :: P.zip vs) m x = _
    unfold bindC
    exact bindC_get (i := i) (List.nodup_cons.mp nd).2 (by simpa using h1) (by simpa using h2) hk
def start (N : List Str) (vs : List V) : St := vs.map some ++ List.replicate (N.length - vs.length) none
def cxOf (CX : CXT) (P : Program) (w : World) (K : PySem.W.Frag) (mg : Str → Option Value) (base : Heap) (N : List Str) (qual : Str) (scope : Scope) (f : Addr) (cd : Value) (A : Around) (outer : List Env) (s : Shared) (H : Hp) (E : XK) : Cx where
  prog := P
  w := w
  K := K
  mg := mg
  base := base
  A := A.deeper (envOfC qual scope s.heap.objs.size f cd)
  N := N
  s₀ := s
  H₀ := H
  env := envOfC qual scope s.heap.objs.size f cd
  outer := outer
  stack := envOfC qual scope s.heap.objs.size f cd :: outer
  ex := []
  calm := true
  fn := fun _ => true
  pn := []
  xe := fun e s' => wpAny (model P w) (A.deeper (envOfC qual scope s.heap.objs.size f cd)) (leaving (envOfC qual scope s.heap.objs.size f cd) e) (fun _ s'' => CX outer H s E e s'') (fun e' s'' => CX outer H s E e' s'') s'
theorem cell_has {sc : Scope} {n : Nat} {x : Str} (h : sc.names.lookup x = some .cell) : ∃ c, (cellsFrom n sc.names []).lookup x = some c := by
  have q := PySem.W.cellsFrom_some sc.names n [] (.inl h)
  exact Option.isSome_iff_exists.mp q
theorem inv_start {CX : CXT} {P : Program} {w : World} {K : PySem.W.Frag} {mg : Str → Option Value} {base : Heap} {N ps : List Str} {qual : Str} {scope : Scope} {f : Addr} {cd : Value} {A : Around} {outer : List Env} {s s1 : Shared} {H : Hp} {E : XK} {us : List Value} {vs : List V}
    (S : FnScope N ps scope) (hd : A.handled = none) (e0 : Env0 P w K mg base A outer s H) (hl : vs.length = ps.length) (r : Vals vs us)
    (x : InCallC s s.heap.objs.size (bindL (envOfC qual scope s.heap.objs.size f cd).kindOf (ps.zip us) fun _ => none) (cellsFrom (s.heap.objs.size + 1) scope.names []) (bindC (envOfC qual scope s.heap.objs.size f cd).kindOf (ps.zip us) fun _ => none) s1) :
    Inv (cxOf CX P w K mg base N qual scope f cd A outer s H E) [] (start N vs) H s1 := by
  have hpl : ps.length ≤ N.length := by have := congrArg List.length S.pre; rw [List.length_take] at this; omega
  obtain ⟨h1, tk, rfl, hk⟩ := x.done
  have noA : ∀ b : Addr, b ∉ (cxOf CX P w K mg base N qual scope f cd A outer s H E).ex := fun b z => absurd (show b ∈ ([] : List Addr) from z) (by simp)
  refine ⟨⟨e0.mod, S.kind, rfl, rfl, Nat.le_refl _, fun y z c h1 h2 => ?_, fun y hy => ?_, fun y c _ h => ?_, fun _ => hd, Around.frames_deeper e0.frames, .inr ⟨rfl, rfl⟩, fun b z => absurd z (noA b), e0.bs, e0.bsz, fun b _ _ => noA b, fun b z => absurd z (noA b), e0.funs, e0.frf⟩,
    rfl, e0.bare, Un.kept hk, ⟨_, x.toInCall.ns, fun i y v h1 h2 h3 => ?_⟩, fun y c h => ⟨_, x.cell y c h⟩, e0.hok.fresh (Nat.le_refl _), fun y c h => ?_, fun p hp => absurd (show p ∈ ([] : List (Addr × Obj)) from hp) (by simp), e0.hok.kept hk, ?_⟩
  · exact name_of_addr x.apart (PySem.mem_of_lookup h1) (PySem.mem_of_lookup h2)
  · have hy : scope.names.lookup y = some .cell ∨ scope.names.lookup y = some .free := hy
    rcases hy with hy | hy
    · exact cell_has hy
    · exact absurd rfl (S.nofree _ (PySem.mem_of_lookup hy))
  · exact Nat.le_of_lt (x.above y c (PySem.mem_of_lookup h))
  · have hi : i < vs.length := by
      unfold start at h2
      by_cases hi : i < vs.length
      · exact hi
      · rw [List.getElem?_append_right (by simpa using hi)] at h2
        rw [List.getElem?_replicate] at h2
        split at h2 <;> cases h2
    have ha : vs[i]? = some v := by
      unfold start at h2
      rw [List.getElem?_append_left (by simpa using hi), List.getElem?_map] at h2
      cases e : vs[i]? with
      | none => rw [e] at h2; cases h2
      | some a => rw [e] at h2; cases h2; rfl
    obtain ⟨u, hu, rv⟩ := r.get ha
    have hp : ps[i]? = some y := by
      rw [← S.pre, List.getElem?_take_of_lt (by omega)]; exact h1
    have ndP : ps.Nodup := by rw [← S.pre]; exact S.nd.sublist (List.take_sublist _ _)
    refine ⟨u, rv, ?_⟩
    rcases S.par y (List.mem_of_getElem? hp) with k | k
    · exact .inl ⟨k, bindL_get ndP hp hu k⟩
    · obtain ⟨c, e⟩ := cell_has (n := s.heap.objs.size + 1) k
      refine .inr ⟨.inl k, c, e, ?_⟩
      have q := x.cell y c e
      rw [bindC_get ndP hp hu (by show scope.names.lookup y ≠ _; rw [k]; decide)] at q
      exact q
  · exact e0.hok.fresh (Nat.le_of_lt (x.above y c (PySem.mem_of_lookup h)))
  · unfold start
    show _ = N.length
    rw [List.length_append, List.length_map, List.length_replicate]
    omega
theorem fn_of {CX : CXT} {P : Program} {w : World} {K : PySem.W.Frag} {mg : Str → Option Value} {base : Heap} {k : Nat} {f : Addr} {name qual : Str} {params : Arguments} {body : List Stmt} {scope : Scope} {dV kV doc pm cdv ct oc : Value} {an od : Option Addr}
    {osl : Array (Option Value)} {N ps : List Str} {sp : Sp} (lk : K.lookup f = some ⟨oc, od, .func (PySem.W.fnOf name qual params body scope dV kV doc pm an cdv ct), osl⟩) (hcd : PySem.W.codeIn K cdv qual = true) (S : FnScope N ps scope)
    (len : ∀ vs H Q E, sp vs H Q E → vs.length = ps.length)
    (hbody : ∀ (A : Around) (outer : List Env) (s : Shared) (H : Hp) (vs : List V) (Q : VK) (E : XK), Room k (A.deeper (envOfC qual scope s.heap.objs.size f cdv)) → sp vs H Q E →
      ∃ t, PSs (cxOf CX P w K mg base N qual scope f cdv A outer s H E) body t ∧ t { nx := fun _ H' => Q .non H', rt := Q } (start N vs) H) :
    FnOk P w K mg base CX (k + 1) f (PySem.W.fnOf name qual params body scope dV kV doc pm an cdv ct) ps sp := by
  refine ⟨len, fun A outer s H args us vs Q E hr e0 hb r hsp => ?_⟩
  have hl := len _ _ _ _ hsp
  have KX : K.In s.heap := e0.mod.kin.keeps fun b o e => (e0.bs b o e).1
  have lim : s.heap.NoLimit := e0.mod.nolimit.keeps fun b o e => (e0.bs b o e).1
  have hkind : ∀ y ∈ ps.zip us, scope.names.lookup y.1 = some .local ∨ (scope.names.lookup y.1 = some .cell ∧ ((cellsFrom (s.heap.objs.size + 1) scope.names []).lookup y.1).isSome = true) := fun ⟨n, v⟩ hy => by
    rcases S.par n (List.of_mem_zip hy).1 with q | q
    · exact .inl q
    · exact .inr ⟨q, PySem.W.cellsFrom_some _ _ _ (.inl q)⟩
  refine codeAny_call_function hr.depth (KX _ _ lk) rfl S.co S.gen rfl (PySem.W.codeRec_of KX hcd) (hb _ _ _ _ ?_)
  refine wpAny_newFunctionEnv_cells S.kind hkind fun env he s1 x => ?_
  subst he
  refine ⟨lim.keeps x.toInCall.keep, codeAny_func ?_⟩
  obtain ⟨t, ht, hq⟩ := hbody A outer s H vs Q E (hr.deeper _) hsp
  have I : Inv (cxOf CX P w K mg base N qual scope f cdv A outer s H E) [] (start N vs) H s1 := inv_start S hr.hd e0 hl r x
  refine wpAny_mono (ht [] s1 (start N vs) H _ I hq) (fun fl s' hs => ?_) fun e s' hs => hs
  have fin : ∀ {σ' : St} {H' : Hp} {v : V} {u : Value}, Inv (cxOf CX P w K mg base N qual scope f cdv A outer s H E) [] σ' H' s' → RelV v u → Q v H' → CE outer P w H s Q u s' :=
    fun {σ' H' v u} J rv q => ⟨v, H', J.os, J.bare, J.base, J.hok, rv, q⟩
  cases fl with
  | ret u =>
    obtain ⟨v, σ', H', J, rv, q⟩ := hs
    exact fin J rv q
  | next =>
    obtain ⟨σ', H', J, q⟩ := hs
    exact fin (v := V.non) (u := Value.none) J rfl q
  | brk =>
    obtain ⟨_, _, _, q⟩ := hs
    exact False.elim q
  | cont =>
    obtain ⟨_, _, _, q⟩ := hs
    exact False.elim q
end L2
namespace L2
open PySem PySem.Spec PyProof.Rows
section
variable {X : Cx} {x : Str} {p pos : Pos} {e : Expr} {es : List Expr} {t : TA} {id T : String} {r : List V → Hp → VK → Prop}
def tCB (r : List V → Hp → VK → Prop) (t : TA) : TE := fun σ H Q => t σ H fun vs H1 => r vs H1 Q
theorem pe_callB (hc : CallR X (.builtin id) r) (hg : Gl X x) (hm : X.mg x = none) (hv : bootBuiltins x = some (.builtin id)) (ha : PA X (e :: es) t) (hn : x ≠ "__name__" := by decide) (hdb : (x == ("__debug__" : Str)) = false := by decide)
    (he : starEach (e :: es) X.env = (false, eval e X.env) :: starEach es X.env := by rfl) (hpl : (backTo pos (starEach es X.env)).any (·.1) = false := by rfl) : PE X (.Call (.Name x p) (e :: es) [] pos) (tCB r t) := by
  intro pins s σ H Q I h
  refine wpAny_Call_Name_kw (ld_blt I hg hm hv ?_ hn hdb)
  exact PyProof.Rows.callWith_builtin1 (thnA (ha pos pins s σ H _ I h) fun us s1 vs H1 I1 r1 q1 => hc pins s1 σ H1 vs us Q I1 r1 q1) he hpl
theorem pe_callTy (hc : CallR X (.type T) r) (hg : Gl X x) (hm : X.mg x = none) (hv : bootBuiltins x = some (.type T)) (ha : PA X (e :: es) t) (hn : x ≠ "__name__" := by decide) (hdb : (x == ("__debug__" : Str)) = false := by decide)
    (he : starEach (e :: es) X.env = (false, eval e X.env) :: starEach es X.env := by rfl) (hpl : (backTo pos (starEach es X.env)).any (·.1) = false := by rfl) : PE X (.Call (.Name x p) (e :: es) [] pos) (tCB r t) := by
  intro pins s σ H Q I h
  refine wpAny_Call_Name_kw (ld_blt I hg hm hv ?_ hn hdb)
  exact PyProof.Rows.callWith_type1 (thnA (ha pos pins s σ H _ I h) fun us s1 vs H1 I1 r1 q1 => hc pins s1 σ H1 vs us Q I1 r1 q1) he hpl
end
end L2
namespace HT
open PySem PyProof.Rows
section
open PySem.SeqAt
open PySem.AutoSeq1 (wpAny_loadPart')
open PySem.MeetsSeq PySem.MeetsSeq2 PySem.MeetsSeq3
end
section
variable {prog : Program} {w : World} {A : Around} {E : Value → Shared → Prop} {s : Shared}
def sIx (n d : Nat) : Option Int → Nat
  | none => d
  | some v => if v < 0 then (v + (n : Int)).toNat else min v.toNat n
end
end HT
namespace L2
open PySem PySem.Spec PyProof.Rows
abbrev TO := St → Hp → (Option Int → Hp → Prop) → Prop
def PO (X : Cx) (e : Option Expr) (t : TO) : Prop :=
  ∀ (pins : List (Addr × Obj)) (s : Shared) (σ : St) (H : Hp) (Q : Option Int → Hp → Prop), Inv X pins σ H s → t σ H Q →
    wpAny (model X.prog X.w) X.A (evalPart e X.env) (fun u s' => ∃ o H', Inv X pins σ H' s' ∧ IsPart u o ∧ Q o H') X.xe s
def tNoPart : TO := fun _ H Q => Q none H
def tPart (t : TE) : TO := fun σ H Q => t σ H fun x H1 => ∃ i, x = .int i ∧ Q (some i) H1
section
variable {X : Cx} {e : Expr} {te : TE} {lo hi : Option Expr} {tl th : TO} {pos p2 : Pos}
theorem po_none : PO X none tNoPart := by
  intro pins s σ H Q I h
  rw [evalPart_none]
  exact wpAny_pure ⟨none, H, I, .none, h⟩
theorem po_some (h : PE X e te) : PO X (some e) (tPart te) := by
  intro pins s σ H Q I hw
  rw [evalPart_some]
  refine thnE (h pins s σ H _ I hw) fun u s1 x H1 I1 r1 q1 => ?_
  obtain ⟨i, rfl, q⟩ := q1
  obtain ⟨t, rfl⟩ := r1
  exact ⟨some i, H1, I1, .int i t, q⟩
def SlR (X : Cx) (r : V → Option Int → Option Int → Hp → VK → Prop) : Prop :=
  ∀ (pins : List (Addr × Obj)) (s : Shared) (σ : St) (H : Hp) (x : V) (v vl vu : Value) (lo hi : Option Int) (sl : Addr) (Q : VK), Inv X pins σ H s → RelV x v → s.heap.IsSliceOf sl vl vu .none → IsPart vl lo → IsPart vu hi → r x lo hi H Q →
    ∃ T id, typeLookup (.type T) "__getitem__" = pure (some (.builtin id)) ∧ s.TypeIs v T ∧ wpAny (model X.prog X.w) X.A (getItem v (.ref sl)) (EP X pins σ Q) X.xe s
def tSl (r : V → Option Int → Option Int → Hp → VK → Prop) (te : TE) (tl th : TO) : TE := fun σ H Q => te σ H fun x H1 => tl σ H1 fun l H2 => th σ H2 fun u H3 => r x l u H3 Q
theorem pe_slice {r : V → Option Int → Option Int → Hp → VK → Prop} (hr : SlR X r) (he : PE X e te) (hl : PO X lo tl) (hu : PO X hi th) : PE X (.Subscript e (.Slice lo hi none p2) pos) (tSl r te tl th) := by
  intro pins s σ H Q I h
  refine Subscript_ (thnE (he pins s σ H _ I h) fun v s1 x H1 I1 r1 q1 => ?_)
  refine wpAny_Slice (thn (hl pins s1 σ H1 _ I1 q1) fun vl s2 ⟨l, H2, I2, pl, q2⟩ => thn (hu pins s2 σ H2 _ I2 q2) fun vu s3 ⟨u, H3, I3, pu, q3⟩ => ?_)
  rw [evalPart_none]
  refine wpAny_pure ?_
  have I4 : Inv X pins σ H3 { s3 with heap := s3.heap.push { cls := .type "slice", data := .fields #[vl, vu, .none] } } := I3.kept (t' := s3.toks) fun b ob q => Heap.get?_push_of_some _ q
  obtain ⟨T, id, hT, ht, hg⟩ := hr pins { s3 with heap := s3.heap.push { cls := .type "slice", data := .fields #[vl, vu, .none] } } σ H3 x v vl vu l u s3.heap.objs.size Q I4 r1 (Heap.IsSliceOf.new ..) pl pu q3
  show wpAny (model X.prog X.w) X.A (subscriptTail e (.Slice lo hi none p2) v (.ref s3.heap.objs.size)) (EP X pins σ Q) X.xe { s3 with heap := s3.heap.push { cls := .type "slice", data := .fields #[vl, vu, .none] } }
  exact tail_any (ops := [.ref s3.heap.objs.size, v]) ht hT hg (by with_unfolding_all rfl)
def cutV (xs : List V) (lo hi : Option Int) : List V := (xs.drop (HT.sIx xs.length 0 lo)).take (HT.sIx xs.length xs.length hi - HT.sIx xs.length 0 lo)
theorem cutV_length (xs : List V) (lo hi : Option Int) : (cutV xs lo hi).length ≤ xs.length := by
  unfold cutV
  rw [List.length_take, List.length_drop]
  omega
end
end L2
namespace L2
open PySem PySem.Spec PyProof.Rows
def ixN (n : Nat) (i : Int) : Option Nat := if 0 ≤ i then (if i < n then some i.toNat else none) else if -(n : Int) ≤ i then some (i + n).toNat else none
def atI {α : Type} (xs : List α) (i : Int) : Option α := (ixN xs.length i).bind fun j => xs[j]?
theorem ixN_seq {n : Nat} {i : Int} {j : Nat} (h : ixN n i = some j) : seqIndex? i n = some j ∧ j < n ∧ -(n : Int) ≤ i ∧ i < n := by
  unfold ixN at h
  by_cases h0 : 0 ≤ i
  · rw [if_pos h0] at h
    by_cases h1 : i < n
    · rw [if_pos h1] at h
      have e : i.toNat = j := Option.some.inj h
      exact ⟨by rw [seqIndex_of h0 h1, e], by omega, by omega, h1⟩
    · rw [if_neg h1] at h; cases h
  · rw [if_neg h0] at h
    by_cases h1 : -(n : Int) ≤ i
    · rw [if_pos h1] at h
      have e : (i + n).toNat = j := Option.some.inj h
      exact ⟨by rw [seqIndex_neg (by omega) h1, e], by omega, h1, by omega⟩
    · rw [if_neg h1] at h; cases h
theorem atI_get {α : Type} {xs : List α} {i : Int} {v : α} (h : atI xs i = some v) : ∃ j, seqIndex? i xs.length = some j ∧ xs[j]? = some v ∧ j < xs.length ∧ -(xs.length : Int) ≤ i ∧ i < xs.length := by
  unfold atI at h
  cases e : ixN xs.length i with
  | none => rw [e] at h; cases h
  | some j =>
    rw [e] at h
    obtain ⟨h1, h2, h3, h4⟩ := ixN_seq e
    exact ⟨j, h1, h, h2, h3, h4⟩
theorem atI_nat {α : Type} {xs : List α} {j : Nat} {v : α} (h : xs[j]? = some v) : atI xs (j : Int) = some v := by
  have hj : j < xs.length := (List.getElem?_eq_some_iff.mp h).1
  have e : ixN xs.length (j : Int) = some j := by
    unfold ixN
    rw [if_pos (by omega), if_pos (by omega)]; simp
  unfold atI; rw [e]; exact h
def PlainIx (b : Expr) : Prop := ∀ o i, subscripted b false o i = operate [o, i] (getItem o i)
def IxR (X : Cx) (r : R2) : Prop :=
  ∀ (value slice : Expr) (pins : List (Addr × Obj)) (s : Shared) (σ : St) (H : Hp) (x y : V) (v u : Value) (Q : VK), Inv X pins σ H s → RelV x v → RelV y u → r x y H Q →
    subscripted slice false v u = operate [v, u] (getItem v u) → wpAny (model X.prog X.w) X.A (subscriptTail value slice v u) (EP X pins σ Q) X.xe s
def MtR (X : Cx) (id : String) (r : V → List V → Hp → VK → Prop) : Prop :=
  ∀ (pins : List (Addr × Obj)) (s : Shared) (σ : St) (H : Hp) (x : V) (xs : List V) (v : Value) (us : List Value) (Q : VK), Inv X pins σ H s → RelV x v → Vals xs us → r x xs H Q →
    wpAny (model X.prog X.w) X.A (call (.builtin id) (v :: us)) (EP X pins σ Q) X.xe s
section
variable {X : Cx} {a b : Expr} {ta tb : TE} {pos : Pos}
theorem pe_ix {r : R2} (hr : IxR X r) (ha : PE X a ta) (hb : PE X b tb) (hs : PlainIx b) : PE X (.Subscript a b pos) (tOp r ta tb) := by
  intro pins s σ H Q I h
  exact Subscript_ (binT ha hb I h fun v u s2 x y H2 I2 rx ry q => hr a b pins s2 σ H2 x y v u Q I2 rx ry q (hs _ _))
def rIxL (K : PySem.W.Frag) : R2 := fun x y H Q => ∃ p xs i v, x = .ref p ∧ y = .int i ∧ SqL K H p xs ∧ atI xs i = some v ∧ Q v H
def rIxT (K : PySem.W.Frag) : R2 := fun x y H Q => ∃ p xs i v, x = .ref p ∧ y = .int i ∧ SqT K H p xs ∧ atI xs i = some v ∧ Q v H
def rIxS : R2 := fun x y H Q => ∃ z i c, x = .str z ∧ y = .int i ∧ z.length ≤ sizeLine ∧ atI z.cps.toList i = some c ∧ Q (.str ⟨#[c]⟩) H
theorem ix_list : IxR X (rIxL X.K) := by
  intro value slice pins s σ H x y v u Q I rx ry h hs
  obtain ⟨p, xs, i, z, rfl, rfl, hq, he, q⟩ := h
  cases rx
  obtain ⟨t, rfl⟩ := ry
  obtain ⟨its, r, pl, hz⟩ := I.list hq
  obtain ⟨j, h1, h2, h3, h4, h5⟩ := atI_get he
  obtain ⟨w, ew, rw'⟩ := r.get h2
  have hl := r.length
  have hn := line63
  have fin : EP X pins σ Q w s := ⟨z, H, I, rw', q⟩
  by_cases h0 : 0 ≤ i
  · have hj : i.toNat = j := by
      rw [seqIndex_of h0 h5] at h1
      exact Option.some.inj h1
    exact item_listR pl.isList h0 (by omega) (by rw [hj]; simpa using ew) fin hs
  · have hj : (i + (its.toArray.size : Int)).toNat = j := by
      rw [seqIndex_neg (by omega) h4] at h1
      rw [List.size_toArray, ← hl]
      exact Option.some.inj h1
    exact subscriptTail_builtinR (x := w) pl.isList.typeIs slot_list_getitem.lookup
      (wpAny_getItem_list_neg (Q := fun r s' => r = w ∧ EP X pins σ Q r s') pl.isList (by omega) (by rw [List.size_toArray] <;> omega) (by omega) (by rw [hj]; simpa using ew) ⟨rfl, fin⟩) hs
theorem ix_tup : IxR X (rIxT X.K) := by
  intro value slice pins s σ H x y v u Q I rx ry h hs
  obtain ⟨p, xs, i, z, rfl, rfl, hq, he, q⟩ := h
  cases rx
  obtain ⟨t, rfl⟩ := ry
  obtain ⟨its, r, pl, hz⟩ := I.tuple hq
  obtain ⟨j, h1, h2, h3, h4, h5⟩ := atI_get he
  obtain ⟨w, ew, rw'⟩ := r.get h2
  have hl := r.length
  have hn := line63
  have fin : EP X pins σ Q w s := ⟨z, H, I, rw', q⟩
  exact subscriptTail_builtinR (x := w) pl.typeIs slot_tuple_getitem.lookup
    (getItem_tuple (j := j) (Q := fun r s' => r = w ∧ EP X pins σ Q r s') pl (by omega) (by omega) (by rw [List.size_toArray, ← hl]; exact h1) (by simpa using ew) ⟨rfl, fin⟩) hs
theorem ix_str : IxR X rIxS := by
  intro value slice pins s σ H x y v u Q I rx ry h hs
  obtain ⟨z, i, c, rfl, rfl, hz, he, q⟩ := h
  obtain ⟨t, rfl⟩ := rx
  obtain ⟨t', rfl⟩ := ry
  obtain ⟨j, h1, h2, h3, h4, h5⟩ := atI_get he
  have hl : z.cps.toList.length = z.length := by simp [Str.length]
  rw [hl] at h1 h4 h5
  have hn := line63
  exact tail_any (typeIs_str s z t) slot_str_getitem.lookup (getItem_str (c := c) (by
    have e1 : decide (i < -(2 ^ 63 : Int)) = false := decide_eq_false (by omega)
    have e2 : decide (i ≥ 2 ^ 63) = false := decide_eq_false (by omega)
    rw [e1, e2, Bool.or_false]) (by rw [h1]; simpa using h2) ⟨.str ⟨#[c]⟩, H, I.tok _, ⟨_, rfl⟩, q⟩) hs
theorem slice_bounds (lo hi : Option Int) (n : Nat) : (sliceBounds lo hi none n).1 = ((HT.sIx n 0 lo : Nat) : Int) ∧ (sliceBounds lo hi none n).2.1 = ((HT.sIx n n hi : Nat) : Int) ∧ (sliceBounds lo hi none n).2.2 = 1 := by
  refine ⟨?_, ?_, rfl⟩
  · cases lo with
    | none => simp [sliceBounds, HT.sIx]
    | some i =>
      simp only [sliceBounds, HT.sIx, Option.getD_none, show (1 : Int) > 0 by decide, if_true]
      by_cases h : i < 0
      · simp only [h, if_true] <;> omega
      · simp only [h, if_false] <;> omega
  · cases hi with
    | none => simp [sliceBounds, HT.sIx]
    | some i =>
      simp only [sliceBounds, HT.sIx, Option.getD_none, show (1 : Int) > 0 by decide, if_true]
      by_cases h : i < 0
      · simp only [h, if_true] <;> omega
      · simp only [h, if_false] <;> omega
theorem slicePick_cut (its : List Value) (lo hi : Option Int) : slicePick its.toArray lo hi none = ((its.drop (HT.sIx its.length 0 lo)).take (HT.sIx its.length its.length hi - HT.sIx its.length 0 lo)).toArray := by
  obtain ⟨h1, h2, h3⟩ := slice_bounds lo hi its.toArray.size
  unfold slicePick
  rw [h1, h2, h3]
  simp only [sliceRange_one, pick_run, List.size_toArray] <;> rfl
def rSlL (K : PySem.W.Frag) : V → Option Int → Option Int → Hp → VK → Prop := fun x lo hi H Q => ∃ a xs, x = .ref a ∧ SqL K H a xs ∧ ∀ p, H p = none → Q (.ref p) (upd H p (.lst (cutV xs lo hi)))
theorem sl_list : SlR X (rSlL X.K) := by
  intro pins s σ H x v vl vu lo hi sl Q I rx hs pl pu h
  obtain ⟨a, xs, rfl, hx, q⟩ := h
  cases rx
  obtain ⟨its, r, ht, hz⟩ := I.list hx
  have hlen := r.length
  refine ⟨"list", _, slot_list_getitem.lookup, ht.isList.typeIs, ?_⟩
  refine wpAny_getItem_list_slice ht.isList hs pl pu .none (by simp) ?_ (by rw [List.size_toArray] <;> omega)
  rw [slicePick_cut, ← hlen]
  refine ⟨.ref s.heap.objs.size, _, I.laid (t' := s.toks) (o := .lst (cutV xs lo hi)) (fun b ob q => Heap.get?_push_of_some _ q) (Nat.le_refl _) ?_, rfl, q _ (I.hok.fresh (Nat.le_refl _))⟩
  exact ⟨Nat.le_trans (cutV_length xs lo hi) hz, _, 0, (r.drop (HT.sIx xs.length 0 lo)).take (HT.sIx xs.length xs.length hi - HT.sIx xs.length 0 lo), Heap.get?_push_size _ rfl⟩
theorem call_len_seq : CallR X (.builtin "len") (fun xs H Q => ∃ p ys, xs = [.ref p] ∧ (SqL X.K H p ys ∨ SqT X.K H p ys) ∧ Q (.int ys.length) H) := by
  intro pins s σ H xs us Q I r h
  obtain ⟨p, ys, rfl, hq, q⟩ := h
  obtain ⟨u, rfl, rx⟩ := vals1 r
  cases rx
  have hn := line63
  rcases hq with hq | hq
  · obtain ⟨its, r', pl, hz⟩ := I.list hq
    have hlen := r'.length
    exact Calls.call_len_list pl.isList (by simp only [List.size_toArray] <;> omega) ⟨.int ys.length, H, I.tok _, ⟨s.toks + 1, by rw [List.size_toArray, hlen]⟩, q⟩
  · obtain ⟨its, r', pl, hz⟩ := I.tuple hq
    have hlen := r'.length
    exact len_tuple pl (by simp only [List.size_toArray] <;> omega) ⟨.int ys.length, H, I.tok _, ⟨s.toks + 1, by rw [List.size_toArray, hlen]⟩, q⟩
theorem call_len_str : CallR X (.builtin "len") (fun xs H Q => ∃ z, xs = [.str z] ∧ z.length ≤ sizeLine ∧ Q (.int z.length) H) := by
  intro pins s σ H xs us Q I r h
  obtain ⟨z, rfl, hz, q⟩ := h
  obtain ⟨u, rfl, t, rfl⟩ := vals1 r
  have hn := line63
  exact len_str (by omega) ⟨.int z.length, H, I.tok _, ⟨_, rfl⟩, q⟩
theorem call_list_of : CallR X (.type "list") (fun xs H Q => ∃ p ys, xs = [.ref p] ∧ (SqL X.K H p ys ∨ SqT X.K H p ys) ∧ ∀ l, H l = none → Q (.ref l) (upd H l (.lst ys))) := by
  intro pins s σ H xs us Q I r h
  obtain ⟨p, ys, rfl, hq, q⟩ := h
  obtain ⟨u, rfl, rx⟩ := vals1 r
  cases rx
  have fin : ∀ (its : List Value), Vals ys its → ys.length ≤ sizeLine → ∀ (h' : Heap) (c' : Nat), (∀ b o', s.heap.get? b = some o' → h'.get? b = some o') →
      h'.get? s.heap.objs.size = some { cls := .type "list", dict := none, data := .seq its.toArray c', slots := #[] } → EP X pins σ Q (.ref s.heap.objs.size) { s with heap := h' } := fun its r' hz h' c' kp e =>
    ⟨.ref s.heap.objs.size, _, I.laid (t' := s.toks) kp (Nat.le_refl _) (show ObjOk X.prog X.w _ h' _ (.lst ys) from ⟨hz, its, c', r', e⟩), rfl, q _ (I.hok.fresh (Nat.le_refl _))⟩
  rcases hq with hq | hq
  · obtain ⟨its, r', pl, hz⟩ := I.list hq
    have hlen := r'.length
    obtain ⟨o, ho, hc, n, hd⟩ := pl.isList
    exact call_list_seq p (.inl rfl) ho hc hd (fun h' c' kp e => fin its r' hz h' c' kp e) (by simp only [List.size_toArray] <;> omega)
  · obtain ⟨its, r', pl, hz⟩ := I.tuple hq
    have hlen := r'.length
    obtain ⟨o, ho, hc, n, hd⟩ := pl
    exact call_list_seq p (.inr rfl) ho hc hd (fun h' c' kp e => fin its r' hz h' c' kp e) (by simp only [List.size_toArray] <;> omega)
theorem call_tuple_of : CallR X (.type "tuple") (fun xs H Q => ∃ p ys, xs = [.ref p] ∧ ((SqL X.K H p ys ∧ ∀ l, H l = none → Q (.ref l) (upd H l (.tup ys))) ∨ (SqT X.K H p ys ∧ Q (.ref p) H))) := by
  intro pins s σ H xs us Q I r h
  obtain ⟨p, ys, rfl, h⟩ := h
  obtain ⟨u, rfl, rx⟩ := vals1 r
  cases rx
  rcases h with ⟨hq, q⟩ | ⟨hq, q⟩
  · obtain ⟨its, r', pl, hz⟩ := I.list hq
    have hlen := r'.length
    refine call_tuple_list pl.isList (fun h' kp => ?_) (by simp only [List.size_toArray] <;> omega)
    have I1 : Inv X pins σ H { s with heap := h' } := I.kept (t' := s.toks) kp
    have I2 : Inv X pins σ (upd H h'.objs.size (.tup ys)) { s with heap := h'.push { cls := .type "tuple", data := .seq its.toArray } } :=
      I1.laid (t' := s.toks) (fun b o e => Heap.get?_push_of_some _ e) (Nat.le_refl _) (show ObjOk X.prog X.w _ _ _ (.tup ys) from ⟨hz, its, r', IsTup.new _ _⟩)
    exact ⟨.ref h'.objs.size, _, I2, rfl, q _ (I1.hok.fresh (Nat.le_refl _))⟩
  · obtain ⟨its, r', pl, hz⟩ := I.tuple hq
    exact call_tuple_same pl ⟨.ref p, H, I, rfl, q⟩
def tyV (K : PySem.W.Frag) (T : String) (x : V) (H : Hp) : Prop := match x with
  | .str _ => T = "str"
  | .int _ => T = "int"
  | .ref p => (T = "list" ∧ ∃ xs, SqL K H p xs) ∨ (T = "tuple" ∧ ∃ o, K.lookup p = some o ∧ o.cls = .type "tuple" ∧ o.dict = none) ∨
      (T = "dict" ∧ ((∃ kvs, H p = some (.dK kvs)) ∨ ∃ kvs, H p = some (.dT kvs))) ∨ (T = "set" ∧ ∃ S n, H p = some (.set S n))
  | _ => False
theorem tyV_is {pins : List (Addr × Obj)} {σ : St} {H : Hp} {s : Shared} {T : String} {x : V} {v : Value} (I : Inv X pins σ H s) (r : RelV x v) (ty : tyV X.K T x H) :
    s.TypeIs v T ∧ ∀ a, v = .ref a → ∃ ob, s.heap.get? a = some ob ∧ ob.dict = none := by
  cases x with
  | str z =>
    obtain ⟨t, rfl⟩ := r
    cases (show T = "str" from ty)
    exact ⟨typeIs_str s z t, fun _ e => nomatch e⟩
  | int i =>
    obtain ⟨t, rfl⟩ := r
    cases (show T = "int" from ty)
    exact ⟨typeIs_int s i t, fun _ e => nomatch e⟩
  | ref p =>
    cases r
    rcases ty with ⟨rfl, xs, hq⟩ | ⟨rfl, o, hk, hc, hd⟩ | ⟨rfl, hk⟩ | ⟨rfl, S, n, hk⟩
    · obtain ⟨its, _, pl, _⟩ := I.list hq
      refine ⟨pl.isList.typeIs, fun a e => ?_⟩
      cases e
      obtain ⟨o, n, e, c, hd, _⟩ := pl
      exact ⟨o, e, hd⟩
    · refine ⟨⟨o, I.kIn p o hk, hc⟩, fun a e => ?_⟩
      cases e
      exact ⟨o, I.kIn _ o hk, hd⟩
    · have z : ∃ o, s.heap.get? p = some o ∧ o.ExactDict := by
        rcases hk with ⟨kvs, hk⟩ | ⟨kvs, hk⟩
        · obtain ⟨_, _, _, _, o, _, _, e, ex, _⟩ := I.hok p _ hk
          exact ⟨o, e, ex⟩
        · obtain ⟨_, _, _, _, o, _, _, e, ex, _⟩ := I.hok p _ hk
          exact ⟨o, e, ex⟩
      obtain ⟨o, e, ex⟩ := z
      refine ⟨⟨o, e, ex.1⟩, fun a e2 => ?_⟩
      cases e2
      exact ⟨o, e, ex.2.1⟩
    · obtain ⟨o, _, _, _, e, ex, _⟩ := I.hok p _ hk
      refine ⟨⟨o, e, ex.1⟩, fun a e2 => ?_⟩
      cases e2
      exact ⟨o, e, ex.2.1⟩
  | _ => exact False.elim ty
def tBM0 (K : PySem.W.Frag) (T : String) (r : V → List V → Hp → VK → Prop) (to : TE) : TE := fun σ H Q => to σ H fun x H1 => tyV K T x H1 ∧ r x [] H1 Q
def tBM (K : PySem.W.Frag) (T : String) (r : V → List V → Hp → VK → Prop) (to : TE) (t : TA) : TE := fun σ H Q => to σ H fun x H1 => tyV K T x H1 ∧ t σ H1 fun xs H2 => r x xs H2 Q
variable {o e : Expr} {es : List Expr} {to : TE} {t : TA} {name : Str} {apos cpos : Pos} {T id : String} {r : V → List V → Hp → VK → Prop}
theorem pe_bm0 (pa : PlainAttrs T) (slot : Slot T name id) (hty : typeOf (.builtin id) = pure (.type "method_descriptor")) (hm : MtR X id r) (ho : PE X o to)
    (hbase : attributeBase o name X.env (eval o X.env) = eval o X.env := by rfl) (hline : (apos.endLine == cpos.line) = true := by rfl) : PE X (.Call (.Attribute o name apos) [] [] cpos) (tBM0 X.K T r to) := by
  intro pins s σ H Q I h
  refine wpAny_Call_method0_late hbase hline (thnE (ho pins s σ H _ I h) fun v s1 x H1 I1 r1 ⟨ty, q1⟩ => ?_)
  obtain ⟨h1, h2⟩ := tyV_is I1 r1 ty
  exact ⟨T, id, pa, slot, hty, h1, h2, Calls.callWith_builtin rfl (PySem.evalArgs_none (hm pins s1 σ H1 x [] v [] Q I1 r1 .nil q1))⟩
theorem pe_bm (pa : PlainAttrs T) (slot : Slot T name id) (hty : typeOf (.builtin id) = pure (.type "method_descriptor")) (hm : MtR X id r) (ho : PE X o to) (ha : PA X (e :: es) t)
    (hbase : attributeBase o name X.env (eval o X.env) = eval o X.env := by rfl)
    (hfew : ((backTo cpos (starEach (e :: es) X.env)).all (fun x => !x.1) && (backToKw cpos (keywordEach [] X.env)).all (fun x => x.1.isSome)
      && decide ((e :: es).length + ([] : List Keyword).length + (if ([] : List Keyword).isEmpty then 0 else 1) < 30)) = true := by rfl)
    (hline : (apos.endLine == cpos.line) = true := by rfl) (hs : starEach (e :: es) X.env = (false, eval e X.env) :: starEach es X.env := by rfl) (hplain : (backTo cpos (starEach es X.env)).any (·.1) = false := by rfl) :
    PE X (.Call (.Attribute o name apos) (e :: es) [] cpos) (tBM X.K T r to t) := by
  intro pins s σ H Q I h
  refine wpAny_Call_method_late hbase hfew hline rfl (thnE (ho pins s σ H _ I h) fun v s1 x H1 I1 r1 ⟨ty, q1⟩ => ?_)
  obtain ⟨h1, h2⟩ := tyV_is I1 r1 ty
  refine ⟨T, id, pa, slot, hty, h1, h2, ?_⟩
  have hA := ha cpos pins s1 σ H1 _ I1 q1
  rw [hs] at hA ⊢
  refine Calls.callWith_builtin (by show (false || (backTo cpos (starEach es X.env)).any (·.1)) = false; rw [hplain] <;> rfl) (Calls.evalArgs_plain ?_)
  exact thn hA fun us s2 ⟨vs, H2, I2, r2, q2⟩ => hm pins s2 σ H2 x vs v us Q I2 r1 r2 q2
end
end L2
namespace L2
open PySem PySem.Spec PyProof.Rows
def MtM (X : Cx) (id : String) (r : V → List V → Hp → VK → Prop) : Prop :=
  ∀ (pins : List (Addr × Obj)) (s : Shared) (σ : St) (H : Hp) (x : V) (xs : List V) (v : Value) (us : List Value) (Q : VK), Inv X pins σ H s → RelV x v → Vals xs us → r x xs H Q →
    wpAny (model X.prog X.w) X.A (call (.builtin id) (v :: us)) (EP X pins σ Q) X.xe s
theorem Vals.one {x : V} {us : List Value} (h : Vals [x] us) : ∃ u, us = [u] ∧ RelV x u := by
  cases h with
  | cons r t => cases t; exact ⟨_, rfl, r⟩
theorem Vals.two {x y : V} {us : List Value} (h : Vals [x, y] us) : ∃ u v, us = [u, v] ∧ RelV x u ∧ RelV y v := by
  cases h with
  | cons r t =>
    obtain ⟨v, e, q⟩ := Vals.one t
    subst e
    exact ⟨_, v, rfl, r, q⟩
theorem Vals.zero : ∀ {us : List Value}, Vals [] us → us = []
  | _, .nil => rfl
theorem Vals.dropLast {xs : List V} {us : List Value} (h : Vals xs us) : Vals xs.dropLast us.dropLast := by
  induction h with
  | nil => exact .nil
  | cons r t ih =>
    cases t with
    | nil => exact .nil
    | cons q t' => exact .cons r ih
theorem erase_last {α : Type} (l : List α) : l.eraseIdx (l.length - 1) = l.dropLast := by
  induction l with
  | nil => rfl
  | cons a r ih =>
    cases r with
    | nil => rfl
    | cons b r =>
      have e : (a :: b :: r).length - 1 = ((b :: r).length - 1) + 1 := by
        have h1 : (a :: b :: r).length = r.length + 2 := rfl
        have h2 : (b :: r).length = r.length + 1 := rfl
        omega
      rw [e, List.eraseIdx_cons_succ, ih]
      all_goals rfl
section
variable {X : Cx} {pins : List (Addr × Obj)} {σ : St} {H : Hp} {s : Shared} {l b : Addr} {xs ys zs : List V}
theorem Inv.lset {its its' : List Value} {n : Nat} {f : Array Value → Array Value} {t' : Nat} (I : Inv X pins σ H s) (hH : H l = some (.lst xs))
    (e : s.heap.get? l = some { cls := .type "list", data := .seq its.toArray n }) (hf : f its.toArray = its'.toArray) (hv : Vals ys its') (hz : ys.length ≤ sizeLine) :
    Inv X pins σ (upd H l (.lst ys)) { s with heap := s.heap.update l (Obj.mapSeq f), toks := t' } := by
  have q := PySem.IsL.update e f
  rw [hf] at q
  refine I.write (x := l) (e := l) (by rw [hH]; exact trivial) (.inl rfl) (fun b' u hb hu => (Heap.get?_update_other s.heap (Obj.mapSeq f) (Ne.symm hb)).trans hu) ⟨_, q⟩ ?_
  exact ⟨hz, its', _, hv, q⟩
theorem Inv.lnew {its : List Value} {t' : Nat} (I : Inv X pins σ H s) (hv : Vals ys its) (hz : ys.length ≤ sizeLine) :
    Inv X pins σ (upd H s.heap.objs.size (.lst ys)) { s with heap := s.heap.push { cls := .type "list", data := .seq its.toArray }, toks := t' } :=
  I.laid (fun _ _ q => Heap.get?_push_of_some _ q) (Nat.le_refl _) ⟨hz, its, 0, hv, Heap.get?_push_size _ rfl⟩
theorem Inv.fresh (I : Inv X pins σ H s) : H s.heap.objs.size = none := I.hok.fresh (Nat.le_refl _)
theorem Inv.lstM (I : Inv X pins σ H s) (hH : H l = some (.lst xs)) : xs.length ≤ sizeLine ∧ ∃ (its : List Value) (n : Nat), Vals xs its ∧ xs.length = its.length ∧ s.heap.get? l = some { cls := .type "list", data := .seq its.toArray n } := by
  obtain ⟨z, its, n, r, e⟩ := I.hok l _ hH
  exact ⟨z, its, n, r, r.length, e⟩
end
section
variable {X : Cx}
def rAppend : V → List V → Hp → VK → Prop := fun x vs H Q => ∃ l xs y, x = .ref l ∧ vs = [y] ∧ H l = some (.lst xs) ∧ xs.length < sizeLine ∧ Q .non (upd H l (.lst (xs ++ [y])))
theorem mt_append : MtM X "list.append" rAppend := by
  intro pins s σ H x vs v us Q I rx rv h
  obtain ⟨l, xs, y, rfl, rfl, hH, hz, q⟩ := h
  cases rx
  obtain ⟨u, rfl, ru⟩ := rv.one
  obtain ⟨z, its, n, r, hl, e⟩ := I.lstM hH
  refine call_meets F.slot_list_append ⟨_, e, rfl⟩ F.entry_list_append (F.args_list_append_2 _ _) (PySem.list_append l its.toArray n u (by rw [List.size_toArray]; omega)) ⟨e, ?_⟩
  refine ⟨.non, _, I.lset (its' := its ++ [u]) hH e (by simp) (r.append (.cons ru .nil)) ?_, rfl, q⟩
  rw [List.length_append, List.length_singleton]
  omega
def rPop : V → List V → Hp → VK → Prop := fun x vs H Q => ∃ l xs y, x = .ref l ∧ vs = [] ∧ H l = some (.lst xs) ∧ xs[xs.length - 1]? = some y ∧ Q y (upd H l (.lst xs.dropLast))
theorem mt_pop : MtM X "list.pop" rPop := by
  intro pins s σ H x vs v us Q I rx rv h
  obtain ⟨l, xs, y, rfl, rfl, hH, hy, q⟩ := h
  cases rx
  have hus := rv.zero
  subst hus
  obtain ⟨z, its, n, r, hl, e⟩ := I.lstM hH
  obtain ⟨u, hu, ru⟩ := r.get hy
  have hy' : its.toArray[its.toArray.size - 1]? = some u := by
    show its.toArray[its.length - 1]? = some u
    rw [← Array.getElem?_toList, ← hl]
    exact hu
  refine call_meets F.slot_list_pop ⟨_, e, rfl⟩ F.entry_list_pop (F.args_list_pop_1 _) (MeetsSeq.list_pop_last l its.toArray n u hy' (by rw [List.size_toArray]; omega)) ⟨e, ?_⟩
  refine ⟨y, _, I.lset (its' := its.dropLast) hH e ?_ r.dropLast ?_, ru, q⟩
  · show its.toArray.eraseIdxIfInBounds (its.toArray.size - 1) = its.dropLast.toArray
    rw [List.size_toArray, List.eraseIdxIfInBounds_toArray, erase_last]
  · rw [List.length_dropLast]
    omega
def rCat : R2 := fun x y H Q => ∃ l b xs zs, x = .ref l ∧ y = .ref b ∧ H l = some (.lst xs) ∧ H b = some (.lst zs) ∧ xs.length + zs.length ≤ sizeLine ∧ ∀ p, H p = none → Q (.ref p) (upd H p (.lst (xs ++ zs)))
theorem op_cat : OpR X (binaryOp .Add) rCat := by
  intro pins s σ H x y v u Q I rx ry h
  obtain ⟨l, b, xs, zs, rfl, rfl, hH, hB, hz, q⟩ := h
  cases rx
  cases ry
  obtain ⟨z, its, n, r, hl, e⟩ := I.lstM hH
  obtain ⟨z2, its2, n2, r2, hl2, e2⟩ := I.lstM hB
  refine PySem.P.add_list e e2 ?_ (by rw [List.size_toArray, List.size_toArray]; omega)
  have ea : its.toArray ++ its2.toArray = (its ++ its2).toArray := by simp
  rw [ea]
  exact ⟨.ref _, _, I.lnew (t' := s.toks) (r.append r2) (by rw [List.length_append]; omega), rfl, q _ I.fresh⟩
end
section
variable {prog : Program} {w : World} {A : Around} {E : Value → Shared → Prop} {s : Shared}
set_option maxRecDepth 100000 in
end
section
variable {X : Cx}
end
end L2
namespace L2
open PySem PySem.Spec PyProof.Rows
section
variable {κ : Type} [DecidableEq κ]
def valV (kvs : List (κ × V)) (k : κ) : Option V := (kvs.find? fun kv => decide (kv.1 = k)).map (·.2)
def putK (kvs : List (κ × V)) (k : κ) (v : V) : List (κ × V) :=
  if (kvs.any fun kv => decide (kv.1 = k)) = true then kvs.map (fun kv => if kv.1 = k then (kv.1, v) else kv) else kvs ++ [(k, v)]
theorem valV_pos {p : κ × V} {r : List (κ × V)} {k : κ} (e : p.1 = k) : valV (p :: r) k = some p.2 := by simp [valV, List.find?_cons, e]
theorem valV_neg {p : κ × V} {r : List (κ × V)} {k : κ} (e : ¬ p.1 = k) : valV (p :: r) k = valV r k := by simp [valV, List.find?_cons, e]
theorem valV_any (k : κ) : ∀ kvs : List (κ × V), (kvs.any fun kv => decide (kv.1 = k)) = (valV kvs k).isSome
  | [] => rfl
  | p :: r => by
    rw [List.any_cons]
    by_cases e : p.1 = k
    · simp only [valV_pos e, decide_eq_true e, Bool.true_or, Option.isSome_some]
    · rw [valV_neg e, decide_eq_false e, Bool.false_or]; exact valV_any k r
theorem length_putK (kvs : List (κ × V)) (k : κ) (v : V) : (putK kvs k v).length ≤ kvs.length + 1 := by
  unfold putK
  split
  · rw [List.length_map]; omega
  · rw [List.length_append, List.length_cons, List.length_nil]; omega
theorem putK_new {kvs : List (κ × V)} {k : κ} (v : V) (h : valV kvs k = none) : putK kvs k v = kvs ++ [(k, v)] := by
  unfold putK
  rw [valV_any, h]
  exact if_neg (by decide)
theorem RelO.isSome_eq {o : Option V} {u : Option Value} (r : RelO o u) : o.isSome = u.isSome := by
  cases o with
  | none => cases u with
    | none => rfl
    | some _ => exact (show False from r).elim
  | some _ => cases u with
    | none => exact (show False from r).elim
    | some _ => rfl
theorem KV.val {kvs : List (κ × V)} {vs : List (κ × Value)} (r : KV kvs vs) (k : κ) : RelO (valV kvs k) (valueAt vs k) := by
  unfold KV at r
  induction r with
  | nil => exact True.intro
  | @cons p q ps qs h t ih =>
    obtain ⟨h1, h2⟩ := h
    by_cases e : p.1 = k
    · have e' : q.1 = k := h1.symm.trans e
      have b : valueAt (q :: qs) k = some q.2 := by simp [valueAt, List.find?_cons, e']
      rw [valV_pos e, b]; exact h2
    · have e' : ¬ q.1 = k := fun z => e (h1.trans z)
      have b : valueAt (q :: qs) k = valueAt qs k := by simp [valueAt, List.find?_cons, e']
      rw [valV_neg e, b]; exact ih
theorem KV.any {kvs : List (κ × V)} {vs : List (κ × Value)} (r : KV kvs vs) (k : κ) : (kvs.any fun kv => decide (kv.1 = k)) = vs.any fun kv => decide (kv.1 = k) := by
  unfold KV at r
  induction r with
  | nil => rfl
  | cons h t ih => rw [List.any_cons, List.any_cons, ih, h.1]
theorem KV.repl {kvs : List (κ × V)} {vs : List (κ × Value)} (r : KV kvs vs) (k : κ) {y : V} {u : Value} (ry : RelV y u) :
    KV (kvs.map fun kv => if kv.1 = k then (kv.1, y) else kv) (vs.map fun kv => if kv.1 = k then (kv.1, u) else kv) := by
  unfold KV at r ⊢
  induction r with
  | nil => exact .nil
  | @cons p q ps qs h t ih =>
    rw [List.map_cons, List.map_cons]
    refine .cons ?_ ih
    obtain ⟨h1, h2⟩ := h
    by_cases e : p.1 = k
    · rw [if_pos e, if_pos (h1.symm.trans e)]; exact ⟨h1, ry⟩
    · rw [if_neg e, if_neg (fun z => e (h1.trans z))]; exact ⟨h1, h2⟩
theorem KV.put {kvs : List (κ × V)} {vs : List (κ × Value)} (r : KV kvs vs) (k : κ) {y : V} {u : Value} (ry : RelV y u) : KV (putK kvs k y) (stored vs k u) := by
  unfold putK stored
  rw [r.any k]
  by_cases e : (vs.any fun kv => decide (kv.1 = k)) = true
  · rw [if_pos e, if_pos e]; exact r.repl k ry
  · rw [if_neg e, if_neg e]; exact Paired.snoc r ⟨rfl, ry⟩
theorem KV.length {kvs : List (κ × V)} {vs : List (κ × Value)} (r : KV kvs vs) : kvs.length = vs.length := Paired.length r
end
theorem kV_is {P : Program} {w : World} {k : Key} {u : Value} (r : RelV (kV k) u) : (mixKind P w).is k u = true := by
  cases k with
  | inl i => obtain ⟨t, e⟩ := (show ∃ t, u = Value.int i t from r); subst e; exact mixKind_int P w i t
  | inr x => obtain ⟨t, e⟩ := (show ∃ t, u = Value.str x t from r); subst e; exact mixKind_str P w x t
theorem items_are {P : Program} {w : World} : ∀ {ks : List Key} {us : List Value}, Vals (ks.map kV) us → ItemsAre (mixKind P w) ks us
  | [], _, r => by rw [List.map_nil] at r; cases r; exact .nil
  | k :: ks, _, r => by
    rw [List.map_cons] at r
    cases r with
    | cons h t => exact .cons (kV_is h) (items_are t)
abbrev KT (H : Hp) : List (List Key × V) → List (List Key × Addr × Value) → Prop := Paired fun p q => p.1 = q.1 ∧ H q.2.1 = some (.tup (p.1.map kV)) ∧ RelV p.2 q.2.2
theorem KT.val {H : Hp} {kvs : List (List Key × V)} {xs : List (List Key × Addr × Value)} (r : KT H kvs xs) (k : List Key) : RelO (valV kvs k) ((atKey xs k).map (·.2)) := by
  induction r with
  | nil => exact True.intro
  | @cons p q ps qs h t ih =>
    obtain ⟨h1, _, h2⟩ := h
    by_cases e : p.1 = k
    · have e' : q.1 = k := h1.symm.trans e
      have b : atKey (q :: qs) k = some q.2 := by simp [atKey, List.find?_cons, e']
      rw [valV_pos e, b]; exact h2
    · have e' : ¬ q.1 = k := fun z => e (h1.trans z)
      have b : atKey (q :: qs) k = atKey qs k := by simp [atKey, List.find?_cons, e']
      rw [valV_neg e, b]; exact ih
theorem KT.repl {H : Hp} {kvs : List (List Key × V)} {xs : List (List Key × Addr × Value)} (r : KT H kvs xs) (k : List Key) {y : V} {u : Value} (ry : RelV y u) :
    KT H (kvs.map fun kv => if kv.1 = k then (kv.1, y) else kv) (xs.map (putAt k u)) := by
  induction r with
  | nil => exact .nil
  | @cons p q ps qs h t ih =>
    rw [List.map_cons, List.map_cons]
    refine .cons ?_ ih
    obtain ⟨h1, h2, h3⟩ := h
    unfold putAt
    by_cases e : p.1 = k
    · rw [if_pos e, if_pos (h1.symm.trans e)]; exact ⟨h1, h2, ry⟩
    · rw [if_neg e, if_neg (fun z => e (h1.trans z))]; exact ⟨h1, h2, h3⟩
theorem KT.put {H : Hp} {kvs : List (List Key × V)} {xs : List (List Key × Addr × Value)} (r : KT H kvs xs) (k : List Key) {b : Addr} {y : V} {u : Value} (hb : H b = some (.tup (k.map kV))) (ry : RelV y u) :
    KT H (putK kvs k y) (storedH xs k b u) := by
  have e : (kvs.any fun kv => decide (kv.1 = k)) = (atKey xs k).isSome := by
    rw [valV_any, (r.val k).isSome_eq, Option.isSome_map]
  unfold putK storedH
  rw [e]
  by_cases q : (atKey xs k).isSome = true
  · rw [if_pos q, if_pos q]; exact r.repl k ry
  · rw [if_neg q, if_neg q]; exact Paired.snoc r ⟨rfl, hb, ry⟩
theorem KT.keeps {H H' : Hp} {kvs : List (List Key × V)} {xs : List (List Key × Addr × Value)} (r : KT H kvs xs) (ht : ∀ b ys, H b = some (.tup ys) → H' b = some (.tup ys)) : KT H' kvs xs :=
  Paired.mapP r fun _ _ z => ⟨z.1, ht _ _ z.2.1, z.2.2⟩
section
variable {P : Program} {w : World} {H : Hp} {h : Heap} {a : Addr}
theorem rd_of {u : HO} (ok : HOk P w H h) (e : Rd H a u) : ObjOk P w H h a u := e.ok ok
theorem dk_rd {kvs : List (Key × V)} (ok : HOk P w H h) (e : Rd H a (.dK kvs)) : kvs.length ≤ sizeLine ∧ (a == sysModules) = false ∧ ∃ vs, KV kvs vs ∧ h.DictOf (mixKind P w) a vs :=
  show ObjOk P w H h a (.dK kvs) from rd_of ok e
theorem dk_of {kvs : List (Key × V)} (ok : HOk P w H h) (e : H a = some (.dK kvs)) : kvs.length ≤ sizeLine ∧ (a == sysModules) = false ∧ ∃ vs, KV kvs vs ∧ h.DictOf (mixKind P w) a vs := dk_rd ok (.inl e)
theorem key_of {ks : List Key} (ok : HOk P w H h) (e : H a = some (.tup (ks.map kV))) : (tupleKind (mixKind P w)).is h ks a := by
  obtain ⟨_, its, r, o, h1, h2, n, h3⟩ := (show ObjOk P w H h a (.tup (ks.map kV)) from ok a _ e)
  exact ⟨o, its.toArray, n, h1, h2, h3, by simpa using items_are r⟩
theorem dt_rd {kvs : List (List Key × V)} (ok : HOk P w H h) (e : Rd H a (.dT kvs)) : kvs.length ≤ sizeLine ∧ (a == sysModules) = false ∧
    ∃ xs, KT H kvs xs ∧ h.DictOfH (tupleKind (mixKind P w)) a xs := by
  obtain ⟨z, y, xs, r, o, es, ep, h1, h2, h3, h4, h5⟩ := (show ObjOk P w H h a (.dT kvs) from rd_of ok e)
  refine ⟨z, y, xs, r, o, es, ep, h1, h2, h3, h4, fun x hx => ?_, h5⟩
  have all : ∀ {l : List (List Key × V)} {m : List (List Key × Addr × Value)}, KT H l m → ∀ x ∈ m, (tupleKind (mixKind P w)).is h x.1 x.2.1 := by
    intro l m q
    induction q with
    | nil => intro x hx; exact nomatch hx
    | @cons p q ps qs hq t ih =>
      intro x hx
      rcases List.mem_cons.mp hx with e | hx
      · subst e
        exact key_of ok (by rw [← hq.1]; exact hq.2.1)
      · exact ih x hx
  exact all r x hx
theorem dt_of {kvs : List (List Key × V)} (ok : HOk P w H h) (e : H a = some (.dT kvs)) : kvs.length ≤ sizeLine ∧ (a == sysModules) = false ∧
    ∃ xs, KT H kvs xs ∧ h.DictOfH (tupleKind (mixKind P w)) a xs := dt_rd ok (.inl e)
end
def DGet (H : Hp) (a : Addr) (y : V) (r : Option V) : Prop :=
  (∃ kvs k, Rd H a (.dK kvs) ∧ y = kV k ∧ r = valV kvs k) ∨ ∃ kvs k b, Rd H a (.dT kvs) ∧ y = .ref b ∧ H b = some (.tup (k.map kV)) ∧ r = valV kvs k
def DPut (H : Hp) (a : Addr) (y v : V) (H' : Hp) : Prop :=
  (∃ kvs k, H a = some (.dK kvs) ∧ y = kV k ∧ kvs.length < sizeLine ∧ H' = upd H a (.dK (putK kvs k v))) ∨
  ∃ kvs k b, H a = some (.dT kvs) ∧ y = .ref b ∧ H b = some (.tup (k.map kV)) ∧ kvs.length < sizeLine ∧ H' = upd H a (.dT (putK kvs k v))
theorem DGet.k {H : Hp} {a : Addr} {kvs : List (Key × V)} {k : Key} (e : H a = some (.dK kvs)) : DGet H a (kV k) (valV kvs k) := .inl ⟨kvs, k, .inl e, rfl, rfl⟩
theorem DPut.k {H : Hp} {a : Addr} {kvs : List (Key × V)} {k : Key} {v : V} (e : H a = some (.dK kvs)) (hl : kvs.length < sizeLine) : DPut H a (kV k) v (upd H a (.dK (putK kvs k v))) := .inl ⟨kvs, k, e, rfl, hl, rfl⟩
section
variable {X : Cx} {pins : List (Addr × Obj)} {σ : St} {H : Hp} {s : Shared} {a : Addr} {y v : V} {u r : Value} {o : Option V} {A : Around} {E : Value → Shared → Prop}
theorem Inv.big (I : Inv X pins σ H s) : sysModules < s.heap.objs.size := by
  have h : mainGlobals < s.heap.objs.size := (I.mod.glob.keeps I.bk).lt
  exact Nat.lt_trans (by decide) h
theorem d_notIn {Q : Value → Shared → Prop} (hu : A.units + 1 < cLine) (I : Inv X pins σ H s) (g : DGet H a y o) (ry : RelV y u) (h : ∀ s', Inv X pins σ H s' → Q (.bool (!o.isSome)) s') :
    wpAny (model X.prog X.w) A (compareOp .NotIn u (.ref a)) Q E s := by
  rcases g with ⟨kvs, k, e, ey, l⟩ | ⟨kvs, k, b, e, ey, eb, l⟩
  · subst ey
    obtain ⟨z, hd, vs, rel, dd⟩ := dk_rd I.hok e
    refine wpAny_notIn_of (kV_is ry) hd dd.mapOf ?_
    rw [← (rel.val k).isSome_eq, ← l]
    exact h _ (I.tok _)
  · subst ey
    cases (show u = Value.ref b from ry)
    obtain ⟨z, hd, xs, rel, dd⟩ := dt_rd I.hok e
    refine wpAny_notIn_heap (tupleKind_room_in1 hu) (key_of I.hok eb) hd dd ?_
    have q := (rel.val k).isSome_eq
    rw [Option.isSome_map] at q
    rw [← q, ← l]
    exact h _ (I.tok _)
theorem d_write {h' : Heap} {t' : Nat} {ob : HO} (I : Inv X pins σ H s) (mu : Mut (H a)) (hs : Heap.SameBut a s.heap h') (he : ∃ q, h'.get? a = some q) (new : ObjOk X.prog X.w (upd H a ob) h' a ob) :
    Inv X pins σ (upd H a ob) { s with heap := h', toks := t' } :=
  I.write (x := a) (e := a) mu (.inl rfl) (fun b q hb z => (hs.2 b hb).trans z) he new
theorem dk_new {P : Program} {w : World} {H' : Hp} {h' : Heap} {kvs : List (Key × V)} {vs : List (Key × Value)} (z : kvs.length ≤ sizeLine) (hd : (a == sysModules) = false) (rel : KV kvs vs) (dd : h'.DictOf (mixKind P w) a vs) :
    ObjOk P w H' h' a (.dK kvs) := ⟨z, hd, vs, rel, dd⟩
theorem d_setItem {H' : Hp} {Q : Unit → Shared → Prop} (hu : A.units + 1 < cLine) (I : Inv X pins σ H s) (g : DPut H a y v H') (ry : RelV y u) (rv : RelV v r) (h : ∀ s', Inv X pins σ H' s' → Q () s') :
    wpAny (model X.prog X.w) A (setItem (.ref a) u r) Q E s := by
  rcases g with ⟨kvs, k, e, ey, l, eH⟩ | ⟨kvs, k, b, e, ey, eb, l, eH⟩
  · subst ey eH
    obtain ⟨z, hd, vs, rel, dd⟩ := dk_of I.hok e
    have hz : vs.length ≤ sizeLine := by rw [← rel.length]; exact z
    have hl : (putK kvs k v).length ≤ sizeLine := by have := length_putK kvs k v; omega
    refine wpAny_setItem_pairs (hsz := hz) (kV_is ry) dd fun h' dd' hs => h _ ?_
    have he : ∃ q, h'.get? a = some q := let ⟨q, _, _, hq, _⟩ := dd'; ⟨q, hq⟩
    exact d_write I (by rw [e]; exact True.intro) hs he (dk_new hl hd (rel.put k rv) dd')
  · subst ey eH
    cases (show u = Value.ref b from ry)
    obtain ⟨z, hd, xs, rel, dd⟩ := dt_of I.hok e
    have hz : xs.length ≤ sizeLine := by rw [← Paired.length rel]; exact z
    have hl : (putK kvs k v).length ≤ sizeLine := by have := length_putK kvs k v; omega
    refine wpAny_setItem_heap (hsz := hz) (tupleKind_room_in1 hu) (key_of I.hok eb) dd fun h' dd' hs => h _ ?_
    obtain ⟨q, es, ep, hq, h2, h3, h4, _, h5⟩ := dd'
    refine d_write I (by rw [e]; exact True.intro) hs ⟨q, hq⟩ ⟨hl, hd, _, (rel.put k eb rv).keeps fun c ys ec => ?_, q, es, ep, hq, h2, h3, h4, h5⟩
    rw [upd_ne (ne_of ec e (fun z => nomatch z))]
    exact ec
end
section
variable {X : Cx} {pins : List (Addr × Obj)} {σ : St} {H : Hp} {s : Shared} {a : Addr} {kvs : List (Key × V)} {k : Key} {u : Value} {A : Around} {E : Value → Shared → Prop}
theorem d_len {Q : Value → Shared → Prop} (I : Inv X pins σ H s) (e : Rd H a (.dK kvs)) (h : ∀ t s', Inv X pins σ H s' → Q (.int kvs.length t) s') : wpAny (model X.prog X.w) A (call (.builtin "len") [.ref a]) Q E s := by
  obtain ⟨z, hd, vs, rel, dd⟩ := dk_rd I.hok e
  refine call_len_dict hd dd (by rw [← rel.length]; rw [sizeLine_eq] at z; omega) ?_
  rw [← rel.length]
  exact h _ _ (I.tok _)
end
def tDGet (td ty : TE) : TE := fun σ H Q => td σ H fun x H1 => ty σ H1 fun y H2 => ∃ a v, x = .ref a ∧ DGet H2 a y (some v) ∧ Q v H2
def tDIn (ty td : TE) : TE := fun σ H Q => ty σ H fun y H1 => td σ H1 fun x H2 => ∃ a o, x = .ref a ∧ DGet H2 a y o ∧ Q (.bl o.isSome) H2
def tDNotIn (ty td : TE) : TE := fun σ H Q => ty σ H fun y H1 => td σ H1 fun x H2 => ∃ a o, x = .ref a ∧ DGet H2 a y o ∧ Q (.bl (!o.isSome)) H2
def sDPut (td ty tv : TE) : TS := fun D σ H => tv σ H fun v H1 => td σ H1 fun x H2 => ty σ H2 fun y H3 => ∃ a H4, x = .ref a ∧ DPut H3 a y v H4 ∧ D.nx σ H4
section
variable {X : Cx} {o i e value : Expr} {pos pos' tpos : Pos} {td ty tv : TE}
theorem pc_dnotin (hu : X.A.units + 1 < cLine) (hi : PE X i ty) (ho : PE X o td) : PC X .NotIn i o (tDNotIn ty td) := by
  intro pins s σ H Q I h
  refine thnE (hi pins s σ H _ I h) fun iv s1 y H1 I1 ry q1 => thnE (ho pins s1 σ H1 _ I1 q1) fun u s2 x H2 I2 rx ⟨a, ov, ex, g, q2⟩ => ?_
  subst ex
  obtain rfl : u = Value.ref a := rx
  exact d_notIn hu I2 g ry fun s3 I3 => ⟨.bl (!ov.isSome), H2, I3, rfl, q2⟩
theorem ps_dput (hu : X.A.units + 1 < cLine) (ho : PE X o td) (hi : PE X i ty) (hv : PE X value tv) (hs : swapsWith value (some (.Subscript o i pos')) pos.line X.env = pure false) :
    PS X (.Assign [.Subscript o i pos'] value pos) (sDPut td ty tv) := by
  intro pins s σ H D I h
  refine wpAny_Assign_Subscript (thnE (hv pins s σ H _ I h) fun r s1 v H1 I1 rv q1 => thnE (ho pins s1 σ H1 _ I1 q1) fun u s2 x H2 I2 rx q2 => thnE (hi pins s2 σ H2 _ I2 q2) fun iv s3 y H3 I3 ry ⟨a, H4, ex, g, q3⟩ => ?_) hs
  subst ex
  obtain rfl : u = Value.ref a := rx
  exact d_setItem hu I3 g ry rv fun s4 I4 => ⟨σ, H4, I4, q3⟩
end
theorem dk_empty {P : Program} {w : World} {H : Hp} (h : Heap) (hb : sysModules < h.objs.size) : ObjOk P w H (h.push { cls := .type "dict", data := .dict #[] }) h.objs.size (.dK []) :=
  ⟨Nat.zero_le _, beq_eq_false_iff_ne.mpr (Ne.symm (Nat.ne_of_lt hb)), [], .nil, Heap.DictOf.new h⟩
def tDNewK : TE := fun _ H Q => ∀ p, H p = none → Q (.ref p) (upd H p (.dK []))
def tDNewT : TE := fun _ H Q => ∀ p, H p = none → Q (.ref p) (upd H p (.dT []))
section
variable {X : Cx} {pos : Pos}
end
def tPairs : List (TE × TE) → St → Hp → (List (V × V) → Hp → Prop) → Prop
  | [], _, H, Q => Q [] H
  | (tk, tv) :: r, σ, H, Q => tk σ H fun x H1 => tv σ H1 fun y H2 => tPairs r σ H2 fun ps H3 => Q ((x, y) :: ps) H3
abbrev VV : List (V × V) → List (Value × Value) → Prop := Paired fun p q => RelV p.1 q.1 ∧ RelV p.2 q.2
def PPs (X : Cx) (pos : Pos) (keys : List (Option Expr)) (values : List Expr) (trs : List (TE × TE)) : Prop :=
  ∀ (pins : List (Addr × Obj)) (s : Shared) (σ : St) (H : Hp) (Q : List (V × V) → Hp → Prop), Inv X pins σ H s → tPairs trs σ H Q →
    wpAny (model X.prog X.w) X.A (evalPairs (pairTrees keys values X.env pos)) (fun vs s' => ∃ ps H', Inv X pins σ H' s' ∧ VV ps vs ∧ Q ps H') X.xe s
theorem pps_nil {X : Cx} {pos : Pos} : PPs X pos [] [] [] := fun pins s σ H Q I h => pairTrees_nil_walk ⟨[], H, I, .nil, h⟩
theorem pps_cons {X : Cx} {pos : Pos} {k v : Expr} {ks : List (Option Expr)} {vs : List Expr} {tk tv : TE} {trs : List (TE × TE)} (hk : PE X k tk) (hv : PE X v tv) (hr : PPs X pos ks vs trs) :
    PPs X pos (some k :: ks) (v :: vs) ((tk, tv) :: trs) := fun pins s σ H Q I h =>
  pairTrees_cons_walk (thnE (hk pins s σ H _ I h) fun u s1 x H1 I1 rx q1 => thnE (hv pins s1 σ H1 _ I1 q1) fun w2 s2 y H2 I2 ry q2 =>
    thn (hr pins s2 σ H2 _ I2 q2) fun ws s3 ⟨ps, H3, I3, rel, q3⟩ => ⟨(x, y) :: ps, H3, I3, .cons ⟨rx, ry⟩ rel, q3⟩)
def mergeK (kvs more : List (Key × V)) : List (Key × V) := more.foldl (fun acc kv => putK acc kv.1 kv.2) kvs
theorem KV.merge : ∀ {more : List (Key × V)} {rs : List (Key × Value)} {kvs : List (Key × V)} {vs : List (Key × Value)}, KV more rs → KV kvs vs → KV (mergeK kvs more) (merged vs rs) := by
  intro more rs kvs vs r
  unfold KV at r
  induction r generalizing kvs vs with
  | nil => intro q; exact q
  | @cons p q ps qs h t ih =>
    intro r0
    have e : KV (putK kvs p.1 p.2) (stored vs q.1 q.2) := by
      have := r0.put p.1 h.2
      rw [← h.1]; exact this
    exact ih e
theorem length_mergeK : ∀ (more kvs : List (Key × V)), (mergeK kvs more).length ≤ kvs.length + more.length
  | [], kvs => by show kvs.length ≤ kvs.length + 0; omega
  | p :: r, kvs => by
    have h1 := length_mergeK r (putK kvs p.1 p.2)
    have h2 := length_putK kvs p.1 p.2
    show (mergeK (putK kvs p.1 p.2) r).length ≤ _
    rw [List.length_cons]; omega
theorem carries_of {P : Program} {w : World} : ∀ {kvs : List (Key × V)} {ws : List (Value × Value)}, VV (kvs.map fun kv => (kV kv.1, kv.2)) ws → ∃ rs, Carries (mixKind P w) ws rs ∧ KV kvs rs
  | [], _, r => by rw [List.map_nil] at r; cases r; exact ⟨[], True.intro, .nil⟩
  | p :: kvs, _, r => by
    rw [List.map_cons] at r
    cases r with
    | @cons a b as bs h t =>
      obtain ⟨rs, c, q⟩ := carries_of (P := P) (w := w) t
      obtain ⟨b1, b2⟩ := b
      exact ⟨(p.1, b2) :: rs, ⟨kV_is h.1, rfl, c⟩, .cons ⟨rfl, h.2⟩ q⟩
def tDisp (trs : List (TE × TE)) : TE := fun σ H Q => ∀ p, H p = none → tPairs trs σ (upd H p (.dK [])) fun ps H2 => H2 p = some (.dK []) ∧ ∃ kvs : List (Key × V), ps = kvs.map (fun kv => (kV kv.1, kv.2)) ∧ kvs.length ≤ 15 ∧ Q (.ref p) (upd H2 p (.dK (mergeK [] kvs)))
theorem pe_disp {X : Cx} {pos : Pos} {keys : List (Option Expr)} {values : List Expr} {trs : List (TE × TE)} (h : PPs X pos keys values trs) (hall : keys.all (·.isSome) = true) (hl : keys.length = values.length) (h0 : keys ≠ [])
    (h15 : keys.length ≤ 15) : PE X (.Dict keys values pos) (tDisp trs) := by
  intro pins s σ H Q I q
  have hn := I.hok.fresh (Nat.le_refl s.heap.objs.size)
  have I1 := I.laid (a := s.heap.objs.size) (o := .dK []) (h' := s.heap.push { cls := .type "dict", data := .dict #[] }) (t' := s.toks) (fun _ _ q => Heap.get?_push_of_some _ q) (Nat.le_refl _) (dk_empty s.heap I.big)
  refine wpAny_Dict_walk (knd := mixKind X.prog X.w) hall hl h0 h15 (thn (h pins _ σ _ _ I1 (q _ hn)) fun ws s2 ⟨ps, H2, I2, rel, e, kvs, ep, lk, q2⟩ => ?_)
  subst ep
  obtain ⟨rs, c, rk⟩ := carries_of (P := X.prog) (w := X.w) rel
  obtain ⟨z, hd, vs0, r0, dd⟩ := dk_of I2.hok e
  cases r0
  refine ⟨rs, c, dd, fun h' dd' hs => ⟨.ref s.heap.objs.size, _, ?_, rfl, q2⟩⟩
  have hz : (mergeK [] kvs).length ≤ sizeLine := by
    have h1 := length_mergeK kvs []
    rw [List.length_nil] at h1
    rw [sizeLine_eq]; omega
  have he : ∃ q, h'.get? s.heap.objs.size = some q := let ⟨q, _, _, hq, _⟩ := dd'; ⟨q, hq⟩
  exact d_write I2 (by rw [e]; exact True.intro) hs he (dk_new hz hd (rk.merge .nil) dd')
section
variable {X : Cx} {pins : List (Addr × Obj)} {σ : St} {H : Hp} {s : Shared} {a : Addr} {y d : V} {u r : Value} {o : Option V} {A : Around} {E : Value → Shared → Prop}
end
section
variable {X : Cx} {o e f : Expr} {apos cpos : Pos} {td ty tx : TE}
end
section
variable {X : Cx} {pins : List (Addr × Obj)} {σ : St} {H : Hp} {s : Shared} {a : Addr} {kvs : List (Key × V)} {A : Around} {E : Value → Shared → Prop}
end
section
variable {X : Cx} {pins : List (Addr × Obj)} {σ : St} {H : Hp} {s : Shared} {a : Addr} {y : V} {u : Value} {A : Around} {E : Value → Shared → Prop}
end
end L2
namespace Att
open PySem PySem.W PySem.Calls PyProof.Rows
theorem ints_of_wellAll {P : Params} {h : Heap} : ∀ (ns : List Int) (vs : List Value), WellAll P h vs (ns.map WData.int) → IntsAre vs ns := by
  intro ns
  induction ns with
  | nil =>
    intro vs w
    rw [List.map_nil] at w
    cases w
    exact .nil
  | cons n ns ih =>
    intro vs w
    rw [List.map_cons] at w
    cases w with
    | cons a b =>
      cases a
      exact .cons _ _ (ih _ b)
theorem script_of {l : OpenLaw} {n : Nat} (hn : l.most = some n) {P : Params} {h : Heap} {args : List WData} {vals : List Value}
    (hpre : l.row.toRowW.claim.pre args = true) (hwl : WellAll P h vals args) :
    ∃ a vs ns, vals = [Value.ref a] ∧ args = [WData.list (ns.map WData.int)] ∧ h.get? a = some { cls := .type "list", data := .seq vs.toArray } ∧ IntsAre vs ns ∧ ns.length ≤ n := by
  have hsh : WShape.hasAll [] args [.list .int] = true := (pre_splitW hpre).1
  have hc : l.pre.holds [] { args := args } = true := (pre_splitW hpre).2
  obtain ⟨d, r, rfl, h1, h2⟩ := hasAllW_cons hsh
  obtain rfl := hasAllW_nil h2
  obtain ⟨xs, rfl, h3⟩ := hasW_list h1
  obtain ⟨ns, rfl⟩ := items_int h3
  have hlen : ns.length ≤ n := by
    unfold OpenLaw.pre at hc
    have h4 : (WTm.not (.lt (.lit (.int (n : Int))) (.len (.arg 0)))).holds [] { args := [.list (ns.map .int)] } = true := by
      have h4 := (holds_andW hc).1
      rw [hn] at h4
      exact h4
    have h5 := condW_of h4 (w_not (w_lt w_lit (w_len_list (w_arg rfl))))
    rw [List.length_map] at h5
    refine Nat.le_of_not_lt fun q => ?_
    have q' : (n : Int) < ((ns.length : Nat) : Int) := by omega
    first
      | (rw [decide_eq_true q'] at h5; exact absurd h5 (by decide))
      | (simp at h5; omega)
  cases hwl with
  | cons w1 w2 =>
    cases w2
    cases w1 with
    | list ho hall => exact ⟨_, _, ns, rfl, rfl, ho, ints_of_wellAll ns _ hall, hlen⟩
theorem post_true (l : OpenLaw) (args : List WData) : l.row.toRowW.claim.post args (.bool true) args = true :=
  postW_of (r := l.row.toRowW) (X := (true == true))
    (show WShape.has [] (.bool true) .bool = true by first | rfl | decide | simp [WShape.has, WShape.arms, WShape.armsAll])
    (show (WTm.eq .res (.lit (.bool true))).value [] { args := args, res := some (.bool true), after := args } = some (.bool (true == true)) from w_eq_bool (w_res rfl) w_lit) rfl
theorem attach_call {l : OpenLaw} {n : Nat} {q : Program} {loose : List Str} {XP : (Str → Option Value) → Heap → Prop} {YP : World → Heap → Prop} {d : DefRec}
    (hn : l.most = some n) (hdf : d.params.defaults = [])
    (call : ∀ (w : World) (s₀ s₁ : Shared) (mg mb : Str → Option Value) (fa : Addr) (o : Obj) (pm cd doc : Value) (a : Addr) (vs : List Value) (ns : List Int),
      Ground q loose [] XP w s₀ mg mb s₁.heap → YP w s₁.heap →
      s₁.heap.get? fa = some o → o.data = .func (docDef d.name d.params d.body d.scope pm cd doc) → s₁.heap.CodeRec cd d.name → mg d.name = some (.ref fa) →
      s₁.heap.get? a = some { cls := .type "list", data := .seq vs.toArray } → IntsAre vs ns → ns.length ≤ n → s₁.gens = #[] →
      codeAny (model l.prog w) callerA (.call (.ref fa) ⟨[.ref a], []⟩) (fun r s' => r = .ok (.ret (.bool true)) ∧ OldK s₁.heap s'.heap ∧ s'.os = s₁.os ∧ AllBare s'.gens) s₁) :
    WalkO q loose XP YP l.row.toRowW d [] (fun f vs => PySem.call f vs) := by
  intro w s₀ s₁ mg mb G Y fa o pm cd doc dV kV ho hd hcd hD hmg hg args vals as hpre hlay hrd hwl hlo
  obtain rfl : dV = .none := Dflts.none hD hdf
  obtain rfl : kV = .none := Dflts.noKw hD
  obtain ⟨a, vs, ns, rfl, rfl, hobj, hints, hlen⟩ := script_of hn hpre hwl
  refine enter_call (codeAny_mono (call w s₀ s₁ mg mb fa o pm cd doc a vs ns G Y ho (fd_plain hd) hcd hmg hobj hints hlen hg) fun r s' hq => ?_)
  obtain ⟨rfl, h2, h3, h4⟩ := hq
  exact ⟨.inl ⟨.bool true, .bool true, [], rfl, fun _ => rfl, .bool true, post_true l _, fun _ => ⟨List.Pairwise.nil, fun _ hm => (nomatch hm)⟩⟩, h2, h3, h4⟩
section
variable {prog : Program} {w : World} {A : Around} {E : Value → Shared → Prop} {s : Shared} {K : Frag}
end
end Att
namespace L2
open PySem PySem.Spec PyProof.Rows
theorem vals_ints : ∀ {vs : List Value} {ns : List Int}, IntsAre vs ns → Vals (ns.map V.int) vs
  | _, _, .nil => .nil
  | _, _, .cons n t h => .cons ⟨t, rfl⟩ (vals_ints h)
def Only (H : Hp) : Prop := ∀ b, H b = none ∨ ∃ o xs, H b = some (.frz o (.lst xs))
theorem law_call {P : Program} {w : World} {K : PySem.W.Frag} {mg mb : Str → Option Value} {CX : CXT} {k : Nat} {fa a : Addr} {fd : FuncData} {x : Str} {sp : Sp} {s₁ : Shared} {vs : List Value} {ns : List Int}
    (KX : K.In s₁.heap) (hns : s₁.heap.Ns mainGlobals mg) (hb : s₁.heap.Ns builtinsNs mb) (hbb : ∀ x : Str, x ≠ "__name__" → mb x = bootBuiltins x) (hlim : s₁.heap.NoLimit) (hg : s₁.gens = #[])
    (ha : s₁.heap.get? a = some { cls := .type "list", data := .seq vs.toArray }) (hi : IntsAre vs ns) (hl : ns.length ≤ sizeLine) (hr : Room k callerA)
    (F : ∀ base : Heap, K.In base → base.Ns mainGlobals mg → FnOk P w K mg base CX k fa fd [x] sp) (hbind : ∀ (s : Shared) (u : Value), BindsTo s fd ⟨[u], []⟩ [(x, u)])
    (hsp : ∀ H : Hp, Only H → SqL K H a (ns.map V.int) → sp [.ref a] H (fun v _ => v = .bl true) fun _ _ _ => False)
    (hCX : ∀ H e s', CX [] H s₁ (fun _ _ _ => False) e s' → False) :
    codeAny (model P w) callerA (.call (.ref fa) ⟨[.ref a], []⟩) (fun r s' => r = .ok (.ret (.bool true)) ∧ OldK s₁.heap s'.heap ∧ s'.os = s₁.os ∧ AllBare s'.gens) s₁ := by
  have rv := vals_ints hi
  have lenV := hi.length
  -- from an abstract heap in which nothing but the script may be tracked
  have core : ∀ H : Hp, Only H → SqL K H a (ns.map V.int) → HOk P w H s₁.heap → (∀ b, H b ≠ none → b = a) → (H a ≠ none → K.lookup a = none) →
      codeAny (model P w) callerA (.call (.ref fa) ⟨[.ref a], []⟩) (fun r s' => r = .ok (.ret (.bool true)) ∧ OldK s₁.heap s'.heap ∧ s'.os = s₁.os ∧ AllBare s'.gens) s₁ := by
    intro H hO hS hok hA hK
    have base_of : ∀ {b : Addr} {o : Obj}, s₁.heap.get? b = some o → H b = none → (hidT s₁.heap H).get? b = some o := fun e n => hidT_get e n
    have noA : ∀ {b : Addr} {o : Obj} {es : Array DictEntry} {ep : Nat}, s₁.heap.get? b = some o → o.data = .dict es ep → H b = none := fun {b o es ep} e d => by
      cases q : H b with
      | none => rfl
      | some u =>
        have e' : b = a := hA b (by rw [q]; simp)
        subst e'
        rw [ha] at e; cases e
        have d' : Data.seq vs.toArray _ = Data.dict es ep := d
        cases d'
    have nsK : ∀ {b : Addr} {m : Str → Option Value}, s₁.heap.Ns b m → (hidT s₁.heap H).Ns b m := fun {b m} ⟨o, es, ep, e, d, r⟩ => ⟨o, es, ep, base_of e (noA e d), d, r⟩
    have hKb : K.In (hidT s₁.heap H) := fun b o e => base_of (KX b o e) (by
      cases q : H b with
      | none => rfl
      | some u =>
        have e' : b = a := hA b (by rw [q]; simp)
        subst e'
        rw [hK (by rw [q]; simp)] at e; cases e)
    have hM : Mod K mg (hidT s₁.heap H) := ⟨hKb, nsK hns, ⟨mb, nsK hb, hbb⟩, let ⟨mc, h1, h2⟩ := hlim; ⟨mc, nsK h1, h2⟩⟩
    have e0 : Env0 P w K mg (hidT s₁.heap H) callerA [] s₁ H := ⟨rfl, hM, fun b o e => of_hidT e, Nat.le_of_eq (hidT_size _ _), trivial, fun b hb => absurd (show b ∈ ([] : List Addr) from hb) (by simp), hok, .of_eq hg⟩
    refine codeAny_mono ((F _ hKb (nsK hns)).run callerA [] s₁ H ⟨[.ref a], []⟩ [.ref a] [.ref a] _ _ hr e0 (hbind s₁ (.ref a)) (.cons rfl .nil) (hsp H hO hS)) fun r s' h => ?_
    cases r with
    | error e => exact (hCX H e s' h).elim
    | ok fl =>
      cases fl with
      | next => exact False.elim h
      | brk => exact False.elim h
      | cont => exact False.elim h
      | ret u =>
        obtain ⟨v, H', os, bare, un, hok', r', q⟩ := h
        have q' : v = .bl true := q
        subst q'
        obtain rfl : u = Value.bool true := r'
        refine ⟨rfl, OldK.of_keep fun b o e => ?_, os, bare⟩
        cases q : H b with
        | none => exact un.keep b o e q (by intro z; exact absurd (show b ∈ ([] : List Addr) from z) (by simp)) (by simp)
        | some u =>
          rcases hO b with z | ⟨ob, xs, z⟩
          · rw [q] at z; cases z
          · have z2 := un.frzs b ob _ z
            obtain ⟨e1, _⟩ := hok b _ z
            obtain ⟨e2, _⟩ := hok' b _ z2
            rw [e] at e1; cases e1
            exact e2
  cases hk : K.lookup a with
  | some o =>
    -- the script is one of the module's own objects
    have e := KX a o hk
    rw [ha] at e
    cases e
    refine core (fun _ => none) (fun _ => .inl rfl) (.inr ⟨_, vs.toArray, _, hk, rfl, rfl, rfl, by rw [List.size_toArray, lenV]; exact hl, by simpa using rv⟩) (fun b u z => by have z' : (none : Option HO) = some u := z; cases z') (fun b z => absurd rfl z) fun z => absurd rfl z
  | none =>
    refine core (fun b => if b = a then some (.frz { cls := .type "list", data := .seq vs.toArray } (.lst (ns.map V.int))) else none) (fun b => ?_) (.inl (.inr ⟨{ cls := .type "list", data := .seq vs.toArray }, if_pos rfl⟩)) (fun b u z => ?_) (fun b z => ?_) fun _ => hk
    · by_cases hb : b = a
      · exact .inr ⟨_, _, if_pos hb⟩
      · exact .inl (if_neg hb)
    · by_cases hb : b = a
      · have z' := (if_pos hb).symm.trans z
        cases z'
        subst hb
        exact ⟨ha, by rw [List.length_map]; exact hl, vs, _, rv, ha⟩
      · have z' := (if_neg hb).symm.trans z
        cases z'
    · by_cases hb : b = a
      · exact hb
      · exact absurd (if_neg hb) z
end L2
namespace L2
open PySem PySem.Spec PyProof.Rows
theorem walk_of {l : PySem.W.OpenLaw} {n k : Nat} {q : Program} {loose : List Str} {XP : (Str → Option Value) → Heap → Prop} {YP : World → Heap → Prop} {d : DefRec} {K : Params → PySem.W.Frag} {CX : World → CXT} {sp : World → Sp} {x : Str}
    (hn : l.most = some n) (hn2 : n ≤ sizeLine) (hdf : d.params.defaults = []) (hr : Room k callerA)
    (hY : ∀ (w : World) (h : Heap), YP w h → (K w.params).In h)
    (F : ∀ (w : World) (mg : Str → Option Value) (fa : Addr) (h : Heap), (K w.params).In h → h.Ns mainGlobals mg → mg d.name = some (.ref fa) →
      ∃ fd : FuncData, (∀ (s : Shared) (u : Value), BindsTo s fd ⟨[u], []⟩ [(x, u)]) ∧
        ∀ base : Heap, (K w.params).In base → base.Ns mainGlobals mg → FnOk l.prog w (K w.params) mg base (CX w) k fa fd [x] (sp w))
    (hsp : ∀ (w : World) (H : Hp) (a : Addr) (ns : List Int), ns.length ≤ n → Only H → SqL (K w.params) H a (ns.map V.int) → sp w [.ref a] H (fun v _ => v = .bl true) fun _ _ _ => False)
    (hCX : ∀ (w : World) (H : Hp) (s : Shared) (e : Value) (s' : Shared), CX w [] H s (fun _ _ _ => False) e s' → False) :
    PySem.W.WalkO q loose XP YP l.row.toRowW d [] (fun f vs => PySem.call f vs) := by
  refine Att.attach_call hn hdf fun w s₀ s₁ mg mb fa o pm cd doc a vs ns G Y ho hd hcd hmg hobj hints hlen hg => ?_
  have KX := hY w _ Y
  obtain ⟨fd, hb, hF⟩ := F w mg fa _ KX G.T.g hmg
  exact law_call KX G.T.g G.T.b G.T.builtins G.T.nolimit hg hobj hints (Nat.le_trans hlen hn2) hr hF hb (fun H hO hS => hsp w H a ns hlen hO hS) fun H e s' => hCX w H s₁ e s'
end L2
namespace L2
open PySem PySem.Spec PyProof.Rows
def inClass (s : Stmt) (j : Nat) : Stmt := match s with
  | .ClassDef _ _ _ body _ _ _ _ _ _ _ => body.getD j (.Pass ⟨0, 0, 0, 0⟩)
  | _ => .Pass ⟨0, 0, 0, 0⟩
def defArgs (s : Stmt) : Arguments := match s with
  | .FunctionDef _ a _ _ _ _ _ _ _ _ => a
  | _ => { posonlyargs := [], args := [], vararg := none, kwonlyargs := [], kw_defaults := [], kwarg := none, defaults := [] }
def defBody (s : Stmt) : List Stmt := match s with
  | .FunctionDef _ _ b _ _ _ _ _ _ _ => b
  | _ => []
def defScope (s : Stmt) : Scope := match s with
  | .FunctionDef _ _ _ _ _ _ sc _ _ _ => sc
  | _ => { kind := .function, names := [], isGenerator := false, isCoroutine := false }
abbrev CX0 : CXT := fun _ _ _ _ _ _ => False
abbrev E0 : XK := fun _ _ _ => False
structure Fun (K : PySem.W.Frag) (x qual : Str) (st : Stmt) (f : Addr) (fd : FuncData) : Prop where
  ex : ∃ (oc : Value) (od : Option Addr) (kV doc pm : Value) (an : Option Addr) (cdv ct : Value) (osl : Array (Option Value)),
    fd = PySem.W.fnOf x qual (defArgs st) (defBody st) (defScope st) .none kV doc pm an cdv ct ∧ K.lookup f = some ⟨oc, od, .func fd, osl⟩ ∧ PySem.W.codeIn K cdv qual = true
  kp : PySem.W.keepIn K (.ref f) = true
section
variable {P : Program} {w : World} {K : PySem.W.Frag} {mg : Str → Option Value} {base : Heap}
theorem Fun.binds {x qual : Str} {st : Stmt} {f : Addr} {fd : FuncData} {ps : List Str} (F : Fun K x qual st f fd)
    (h : ∀ (kV doc pm : Value) (an : Option Addr) (cdv ct : Value) (us : List Value), us.length = ps.length → bindArgs (PySem.W.fnOf x qual (defArgs st) (defBody st) (defScope st) .none kV doc pm an cdv ct) ⟨us, []⟩ = pure (ps.zip us)) : Binds K fd ps [] := by
  obtain ⟨oc, od, kV, doc, pm, an, cdv, ct, osl, rfl, lk, hcd⟩ := F.ex
  exact .all (h kV doc pm an cdv ct)
theorem fun_mk {x qual : Str} {st : Stmt} {f : Addr} {oc : Value} {od an : Option Addr} {osl : Array (Option Value)} {kV doc pm cdv ct : Value} (l : K.lookup f = some ⟨oc, od, .func (PySem.W.fnOf x qual (defArgs st) (defBody st) (defScope st) .none kV doc pm an cdv ct), osl⟩)
    (c : PySem.W.codeIn K cdv qual = true) (k : PySem.W.keepIn K (.ref f) = true) : Fun K x qual st f (PySem.W.fnOf x qual (defArgs st) (defBody st) (defScope st) .none kV doc pm an cdv ct) := ⟨⟨oc, od, kV, doc, pm, an, cdv, ct, osl, rfl, l, c⟩, k⟩
end
theorem hu_of {A : Around} {k : Nat} (hr : Room k A) : A.units + 1 < cLine := Nat.lt_of_le_of_lt (Nat.add_le_add_left (by decide : 1 ≤ 64) _) hr.units
section
variable {X : Cx}
theorem pv (i : Nat) {x : Str} {pos : Pos} (hN : X.N[i]? = some x := by rfl) (hv : Vis X.env.scope x := by first | exact Or.inl rfl | exact Or.inr (Or.inl rfl) | exact Or.inr (Or.inr rfl)) (hd : (x == ("__debug__" : Str)) = false := by decide)
    (hcd : (x == ("__classdict__" : Str)) = false := by decide) : PE X (.Name x pos) (tVar i) := pe_var hN hv hd hcd
end
theorem iteF {A B : Prop} (h : B) : if false = true then A else B := by
  rw [if_neg Bool.false_ne_true]
  exact h
theorem iteT {A B : Prop} (h : A) : if true = true then A else B := by
  rw [if_pos rfl]
  exact h
def Same (H H' : Hp) : Prop := ∀ b o, H b = some o → H' b = some o
theorem Same.refl (H : Hp) : Same H H := fun _ _ h => h
theorem Same.trans {H H1 H2 : Hp} (a : Same H H1) (b : Same H1 H2) : Same H H2 := fun c o h => b c o (a c o h)
theorem Same.free {H H' : Hp} (e : Same H H') {l : Addr} (h : H' l = Option.none) : H l = Option.none := by
  cases q : H l with
  | none => rfl
  | some o =>
    rw [e l o q] at h
    cases h
theorem Same.seq {K : PySem.W.Frag} {H H' : Hp} {a : Addr} {xs : List V} (e : Same H H') (h : SqL K H a xs) : SqL K H' a xs := by
  rcases h with (h | ⟨o, h⟩) | h
  · exact .inl (.inl (e _ _ h))
  · exact .inl (.inr ⟨o, e _ _ h⟩)
  · exact .inr h
end L2
namespace L2
open PySem PySem.Spec PyProof.Rows
section
variable {X : Cx}
theorem call_lenD : CallR X (.builtin "len") (fun xs H Q => ∃ a kvs, xs = [V.ref a] ∧ H a = some (.dK kvs) ∧ Q (.int kvs.length) H) := by
  intro pins s σ H xs us Q I r h
  obtain ⟨a, kvs, rfl, ha, q⟩ := h
  obtain ⟨u, rfl, ru⟩ := vals1 r
  cases ru
  exact d_len I (.inl ha) fun t s' I' => ⟨.int kvs.length, H, I', ⟨t, rfl⟩, q⟩
end
section
variable {κ : Type} [DecidableEq κ]
end
end L2
set_option Elab.async false
set_option linter.all false
set_option maxRecDepth 100000
namespace L2
open PySem PySem.Spec PyProof.Rows
def Cx.comp (X : Cx) (Nc : List Str) (scope : Scope) (cl : List (Str × Addr)) (C : Addr) (s₂ : Shared) (H₁ : Hp) (fp : List Addr) : Cx where
  prog := X.prog
  w := X.w
  K := X.K
  mg := X.mg
  base := X.base
  A := X.A
  N := Nc
  s₀ := s₂
  H₀ := H₁
  env := compEnvC scope cl C X.env
  outer := X.stack
  stack := X.stack
  ex := fp
  fn := fun _ => false
  calm := X.calm
  pn := []
  xe := fun _ _ => False
structure CompTxt (X : Cx) (Nc : List Str) (own : Nat) (js : List Nat) (scope : Scope) (cl : List (Str × Addr)) : Prop where
  clos : closureFor scope X.env = pure cl
  kind : scope.kind = .function
  nocell : ∀ y ∈ scope.names, y.2 ≠ .cell
  names : ∀ y ∈ scope.names, y.2 = .local → scope.names.lookup y.1 = some .local
  cells : ∀ x c, cl.lookup x = some c → X.env.cells.lookup x = some c
  has : ∀ x, ((relabel scope X.env).names.lookup x = some .cell ∨ (relabel scope X.env).names.lookup x = some .free) → ∃ c, cl.lookup x = some c
  len : Nc.length = own + js.length
  outer : ∀ i x, Nc[own + i]? = some x → ∃ j, js[i]? = some j ∧ X.N[j]? = some x ∧ X.env.scope.names.lookup x = some .cell ∧ (relabel scope X.env).names.lookup x = some .cell
def compStart0 (own : Nat) (js : List Nat) (σ : St) : St := List.replicate own none ++ js.map fun j => (σ[j]?).getD none
def tComp (own : Nat) (js : List Nat) (wi : TI) (g : TG) (tc : TT) (te : TE) : TE := fun σ H Q => wi σ H fun J H1 => ∀ p, H1 p = none →
  ∃ W : Nat → Nat → List V → St → Hp → Prop, (∃ m, W 0 m [] (compStart0 own js σ) (upd H1 p (.lst []))) ∧ ∀ i m ys σc Hc, W i m ys σc Hc →
    (J.stop i Hc ∧ Q (.ref p) Hc) ∨ (J.go i Hc ∧ ∀ x H', J.yld i Hc x H' → g x σc H' fun σ2 H2 => tc σ2 H2 fun b H3 =>
      if b = true then te σ2 H3 fun y H4 => H4 p = some (.lst ys) ∧ ys.length < sizeLine ∧ ∃ m', m' < m ∧ W (i + 1) m' (ys ++ [y]) σ2 (upd H4 p (.lst (ys ++ [y])))
      else ∃ m', m' < m ∧ W (i + 1) m' ys σ2 H3)
def PTs (X : Cx) (ifs : List Expr) (t : TT) : Prop :=
  ∀ (pins : List (Addr × Obj)) (s : Shared) (σ : St) (H : Hp) (Q : Bool → Hp → Prop), Inv X pins σ H s → t σ H Q →
    wpAny (model X.prog X.w) X.A (forIn ifs true fun c r => if r = true then do let ok ← isTrue c X.env (eval c X.env); pure (ForInStep.yield ok) else pure (ForInStep.yield r)) (TP X pins σ Q) X.xe s
def tYes : TT := fun _ H Q => Q true H
theorem pts_nil {X : Cx} : PTs X [] tYes := fun pins s σ H Q I h => wpAny_tests_nil ⟨H, I, h⟩
section
variable {prog : Program} {w : World} {A : Around} {E : Value → Shared → Prop} {R : Result → Shared → Prop} {s : Shared}
theorem compLoop_go {elt target iter : Expr} {ifs : List Expr} {scope : Scope} {pos : Pos} {it acc : Value} {env : Env} (I : Nat → Shared → Prop)
    (turn : ∀ n s, I n s → wpAny (model prog w) A (pyNext it) (fun r s₁ => match r with
      | none => R (.ok .next) s₁
      | some v => wpAny (model prog w) A (letOwnedTupleGo target it v) (fun _ s₁' => wpAny (model prog w) A (assign target env v) (fun _ s₂ =>
          wpAny (model prog w) A (forIn ifs true fun c r => if r = true then do let ok ← isTrue c env (eval c env); pure (ForInStep.yield ok) else pure (ForInStep.yield r)) (fun ok s₃ =>
            if ok = true then wpAny (model prog w) A (eval elt env) (fun x s₄ =>
              wpAny (model prog w) A (call (.builtin "list.append") [acc, x]) (fun _ s₅ => ∃ m, m < n ∧ I m s₅) (fun _ _ => False) s₄) (fun _ _ => False) s₃
            else ∃ m, m < n ∧ I m s₃) (fun _ _ => False) s₂) (fun _ _ => False) s₁') (fun _ _ => False) s₁) (fun _ _ => False) s)
    (n : Nat) (h : I n s) :
    codeAny (model prog w) A (.compLoop (.ListComp elt [⟨target, iter, ifs, 0⟩] scope pos) 0 it acc env) R s := by
  refine codeAny_loop rfl I (fun n s hI => ?_) n h
  show wpAny _ A ((compTurn (.ListComp elt [⟨target, iter, ifs, 0⟩] scope pos) 0 it acc env).onRaise (fun x => do noteFrame x env; theTreesLotGoes x)) _ _ s
  refine wpAny_noted ?_
  rw [compTurn_list]
  refine wpAny_bind (wpAny_standAt (wpAny_bind (wpAny_mono (turn n s hI) (fun r s₁ h₁ => ?_) fun _ _ h' => h'.elim)))
  cases r with
  | none => exact wpAny_pure h₁
  | some v =>
    refine wpAny_bind (wpAny_mono h₁ (fun _ s₁' h₁' => ?_) fun _ _ h' => h'.elim)
    refine wpAny_bind (wpAny_mono h₁' (fun _ s₂ h₂ => wpAny_bind (wpAny_mono h₂ (fun ok s₃ h₃ => ?_) fun _ _ h' => h'.elim)) fun _ _ h' => h'.elim)
    cases ok with
    | true =>
      rw [if_pos rfl] at h₃
      simp only [if_true]
      exact wpAny_bind (wpAny_bind (wpAny_mono h₃ (fun x s₄ h₄ => wpAny_bind (wpAny_mono h₄ (fun _ s₅ h₅ => wpAny_pure (wpAny_pure ⟨rfl, h₅⟩)) fun _ _ h' => h'.elim)) fun _ _ h' => h'.elim))
    | false =>
      rw [if_neg Bool.false_ne_true] at h₃
      simp only [Bool.false_eq_true, if_false]
      first
        | exact wpAny_pure ⟨rfl, h₃⟩
        | exact wpAny_bind (wpAny_pure (wpAny_pure ⟨rfl, h₃⟩))
end
end L2
set_option Elab.async false
set_option linter.all false
set_option maxRecDepth 100000
namespace L2
open PySem PySem.Spec PyProof.Rows
section
variable {X : Cx} {Nc : List Str} {own : Nat} {js : List Nat} {scope : Scope} {cl : List (Str × Addr)}
theorem comp_ok {pins : List (Addr × Obj)} {σ : St} {H₁ : Hp} {s₂ : Shared} {C : Addr} {fp : List Addr} (T : CompTxt X Nc own js scope cl) (I : Inv X pins σ H₁ s₂) (hC : s₂.heap.objs.size ≤ C)
    (f1 : ∀ b ∈ fp, FpOk X pins H₁ b) (hlt : ∀ b ∈ fp, b < s₂.heap.objs.size) : (X.comp Nc scope cl C s₂ H₁ fp).Ok where
  mod := I.ok.mod
  kind := by show (relabel scope X.env).kind = _; exact T.kind
  glob := I.ok.glob
  blt := I.ok.blt
  above := hC
  inj := fun x y c h1 h2 => I.ok.inj x y c (T.cells x c h1) (T.cells y c h2)
  has := fun x h => T.has x h
  cab := fun x c h => by cases h
  hd := I.ok.hd
  frames := I.ok.frames
  stk := .inl rfl
  exf := fun b hb => ⟨Nat.ne_of_lt (Nat.lt_of_lt_of_le (hlt b hb) hC), fun x c h => (f1 b hb).2.2.2.2.1 x c (T.cells x c h)⟩
  bs := I.bs
  bsz := Nat.le_trans I.ok.bsz I.sz
  noex := fun b o e hb => by
    rcases (f1 b hb).2.2.2.1 with z | z
    · exact I.ok.noex b o e z
    · exact absurd (Nat.lt_of_lt_of_le (Heap.lt_size (I.ok.bs b o e).1) z) (Nat.lt_irrefl _)
  exfs := fun b hb hs => by
    rcases List.mem_cons.mp (I.stkSub b hs) with z | z
    · exact (f1 b hb).2.1 z
    · exact (f1 b hb).2.2.1 z
  funs := I.stack
  frf := I.stkFree
theorem comp_inv {pins : List (Addr × Obj)} {σ : St} {H₁ : Hp} {s₂ : Shared} {C D : Addr} {fp : List Addr} {h₁ : Heap} {t : Nat} {m : Str → Option Value} (T : CompTxt X Nc own js scope cl) (I : Inv X pins σ H₁ s₂) (hC : s₂.heap.objs.size ≤ C)
    (hD : s₂.heap.objs.size ≤ D) (hDC : D ≠ C) (f1 : ∀ b ∈ fp, FpOk X pins H₁ b) (hlt : ∀ b ∈ fp, b < s₂.heap.objs.size) (old : ∀ b o, s₂.heap.get? b = some o → h₁.get? b = some o) (hns : h₁.Ns C m)
    (hacc : ∃ n, h₁.get? D = some { cls := .type "list", data := .seq ([] : List Value).toArray n }) :
    Inv (X.comp Nc scope cl C s₂ H₁ fp) [] (compStart0 own js σ) (upd H₁ D (.lst [])) { s₂ with heap := h₁, toks := t } := by
  obtain ⟨na, hacc⟩ := hacc
  have cellK : ∀ c v, s₂.heap.IsCell c v → h₁.IsCell c v := fun c v ⟨o, ho, hd⟩ => ⟨o, old c o ho, hd⟩
  refine ⟨comp_ok T I hC f1 hlt, rfl, I.bare, Un.laid old hD (I.hok.fresh hD), ⟨m, hns, fun i x v e1 e2 e3 => ?_⟩, fun x c e => ?_, ?_, fun x c e => ?_, fun p hp => (by cases hp), I.hok.laid old hD ?_, ?_⟩
  · have hN : Nc[i]? = some x := e1
    have hσ : (compStart0 own js σ)[i]? = some (some v) := e2
    unfold compStart0 at hσ
    by_cases hi : i < own
    · rw [List.getElem?_append_left (by simpa using hi), List.getElem?_replicate] at hσ
      simp [hi] at hσ
    · obtain ⟨k, rfl⟩ : ∃ k, i = own + k := ⟨i - own, by omega⟩
      rw [List.getElem?_append_right (by simp)] at hσ
      simp only [List.length_replicate, Nat.add_sub_cancel_left, List.getElem?_map] at hσ
      obtain ⟨j, hj, hx, hk, hr⟩ := T.outer k x hN
      rw [hj] at hσ
      replace hσ : some (σ[j]?.getD none) = some (some v) := hσ
      have hσj : σ[j]? = some (some v) := by
        cases q : σ[j]? with
        | none => rw [q] at hσ; simp at hσ
        | some y => rw [q] at hσ; simpa using hσ
      obtain ⟨m0, hn0, hl0⟩ := I.loc
      obtain ⟨u, ru, lk⟩ := hl0 j x v hx hσj (.inr (.inl hk))
      refine ⟨u, ru, .inr ⟨.inl hr, ?_⟩⟩
      rcases lk with ⟨z, _⟩ | ⟨_, c, hc, hcell⟩
      · have z' : X.env.scope.names.lookup x = some .local := z
        rw [hk] at z'; cases z'
      · obtain ⟨c', hc'⟩ := T.has x (.inl hr)
        have := T.cells x c' hc'
        rw [hc] at this; cases this
        exact ⟨c, hc', cellK c _ hcell⟩
  · obtain ⟨v, z⟩ := I.cell x c (T.cells x c e)
    exact ⟨v, cellK c v z⟩
  · show upd H₁ D (.lst []) C = none
    rw [upd_ne (Ne.symm hDC)]
    exact I.hok.fresh hC
  · have e' := T.cells x c e
    obtain ⟨v, o, ho, _⟩ := I.cell x c e'
    rw [upd_ne (Nat.ne_of_lt (Nat.lt_of_lt_of_le (Heap.lt_size ho) hD))]
    exact I.freeC x c e'
  · exact ⟨Nat.zero_le _, [], na, .nil, hacc⟩
  · show (compStart0 own js σ).length = Nc.length
    rw [T.len]
    simp [compStart0]
theorem comp_back {pins : List (Addr × Obj)} {σ σc : St} {H₁ H' : Hp} {s₂ s' : Shared} {C : Addr} {fp : List Addr} {h' : Heap} (I : Inv X pins σ H₁ s₂) (hC : s₂.heap.objs.size ≤ C)
    (f1 : ∀ b ∈ fp, FpOk X pins H₁ b) (I' : Inv (X.comp Nc scope cl C s₂ H₁ fp) [] σc H' s') (hs : Heap.SameBut C s'.heap h') : Inv X pins σ H' { s' with heap := h' } := by
  have u : Un (frs X.stack) fp H₁ H' s₂.heap s'.heap := I'.base
  have ne : ∀ b o, s₂.heap.get? b = some o → b ≠ C := fun b o e => Nat.ne_of_lt (Nat.lt_of_lt_of_le (Heap.lt_size e) hC)
  have k : ∀ b o, b ≠ C → s'.heap.get? b = some o → h'.get? b = some o := fun b o n e => hs.extBut b o n e
  have u' : Un (frs X.stack) fp H₁ H' s₂.heap h' := ⟨fun b o e n hb hx => k b o (ne b o e) (u.keep b o e n hb hx), fun b o e n hb hx => let ⟨sl, q⟩ := u.slot b o e n hb hx; ⟨sl, k b _ (ne b o e) q⟩,
    u.free, fun b o e hx => let ⟨o', q⟩ := u.there b o e hx; ⟨o', k b o' (ne b o e) q⟩, u.tups, u.frzs, u.tbls⟩
  have hfree : H' C = none := I'.free
  have hok' : HOk X.prog X.w H' h' := fun a o e => (I'.hok a o e).stay (fun b v hb q => k b v (fun z => by
    rcases hb with y | y
    · rw [y] at z; rw [z, hfree] at e; cases e
    · rw [z, hfree] at y; cases y) q) (fun _ q => q) fun _ _ q => q
  exact I.call' (s' := { s' with heap := h' }) (ch := fp) I'.os u' hok' I'.bare fun b hb => ⟨(f1 b hb).2.2.2.1, (f1 b hb).2.1, (f1 b hb).2.2.2.2.1, (f1 b hb).2.2.2.2.2⟩
theorem pe_comp {elt target iter : Expr} {ifs : List Expr} {pos : Pos} {wi : TI} {g : TG} {tc : TT} {te : TE} (hc : X.calm = true) (T : CompTxt X Nc own js scope cl)
    (hi : PI X target iter wi) (hg : ∀ C s₂ H₁ fp, PG (X.comp Nc scope cl C s₂ H₁ fp) target g) (ht : ∀ C s₂ H₁ fp, PTs (X.comp Nc scope cl C s₂ H₁ fp) ifs tc)
    (he : ∀ C s₂ H₁ fp, PE (X.comp Nc scope cl C s₂ H₁ fp) elt te) (hs : ∀ x, foldedSetIterable iter X.env x = pure x := by intro _; rfl) :
    PE X (.ListComp elt [⟨target, iter, ifs, 0⟩] scope pos) (tComp own js wi g tc te) := by
  intro pins s σ H Q I h
  rw [eval_ListComp]
  refine wpAny_comprehension_free (use := none) rfl hs T.clos T.kind T.names (thn (hi pins s σ H _ I h) fun v s1 h1 => thn h1 fun itv s2 h2 => ?_)
  obtain ⟨it, fp, tn, J, H1, rfl, I1, Tn, st, f1, R⟩ := h2
  have hfp : ∀ b ∈ fp, b < s2.heap.objs.size := fun b hb => let ⟨o, e, _⟩ := Tn.obj _ _ st b hb; Heap.lt_size e
  refine wpAny_newObj_type (wpAny_newFunctionEnv T.nocell (by intro y hy; simp at hy) (fun h₁ hns₁ hsb₁ => ?_) T.kind)
  dsimp only at hns₁ hsb₁ ⊢
  generalize hH2 : s2.heap.push { cls := .type "list", dict := none, data := .seq ([] : List Value).toArray } = H2 at hns₁ hsb₁ ⊢
  have hC : H2.objs.size = s2.heap.objs.size + 1 := by rw [← hH2, Heap.size_push]
  have hDC : s2.heap.objs.size ≠ H2.objs.size := by rw [hC]; exact Nat.ne_of_lt (Nat.lt_succ_self _)
  have hCle : s2.heap.objs.size ≤ H2.objs.size := by rw [hC]; exact Nat.le_succ _
  have below : ∀ b, b < s2.heap.objs.size → b ≠ H2.objs.size := fun b hb => by rw [hC]; exact Nat.ne_of_lt (Nat.lt_succ_of_lt hb)
  have old : ∀ b o, s2.heap.get? b = some o → h₁.get? b = some o := fun b o e => hsb₁.extBut b o (below b (Heap.lt_size e)) (Heap.get?_push_of_some _ (hH2 ▸ Heap.get?_push_of_some _ e))
  have hacc : ∃ n, h₁.get? s2.heap.objs.size = some { cls := .type "list", data := .seq ([] : List Value).toArray n } := ⟨_, hsb₁.extBut _ _ hDC (Heap.get?_push_of_some _ (hH2 ▸ Heap.get?_push_size _ rfl))⟩
  have st₁ : tn 0 h₁ := Tn.keep _ _ _ st fun b _ o e => old b o e
  obtain ⟨W, ⟨m0, w0⟩, turn⟩ := R s2.heap.objs.size I1.fresh
  have Ic := comp_inv (t := s2.toks + ([] : List (Str × Value)).length) T I1 hCle (Nat.le_refl _) hDC f1 hfp old hns₁ hacc
  generalize hXc : X.comp Nc scope cl H2.objs.size s2 H1 fp = Xc at Ic
  have stat : ∀ {H' : Hp}, (∀ b ∈ fp, H' b = none) → ∀ b ∈ fp, FpOk Xc [] H' b := fun {H'} hn b hb => by
    subst hXc
    exact ⟨hn b hb, below b (hfp b hb), (comp_ok T I1 hCle f1 hfp).exfs b hb, .inl hb, fun x c e => (f1 b hb).2.2.2.2.1 x c (T.cells x c e), fun p hp => by cases hp⟩
  have fr0 : ∀ b ∈ fp, upd H1 s2.heap.objs.size (.lst []) b = none := fun b hb => by
    rw [upd_ne (Nat.ne_of_lt (hfp b hb))]
    exact (f1 b hb).1
  have calmc : Xc.calm = true := by subst hXc; exact hc
  have loop : ∀ s₃ : Shared, s₃ = { s2 with heap := h₁, toks := s2.toks + ([] : List (Str × Value)).length } →
      codeAny (model X.prog X.w) X.A (.compLoop (.ListComp elt [⟨target, iter, ifs, 0⟩] scope pos) 0 (.ref it) (.ref s2.heap.objs.size) (compEnvC scope cl H2.objs.size X.env))
        (compPost (model X.prog X.w) X.A X.xe none (EP X pins σ Q) (.ref s2.heap.objs.size) H2.objs.size) s₃ := by
    rintro s₃ rfl
    refine compLoop_go (fun n s' => ∃ i ys σ' H', Inv Xc [] σ' H' s' ∧ tn i s'.heap ∧ (∀ b ∈ fp, H' b = none) ∧ W i n ys σ' H') ?_ m0 ⟨0, [], _, _, Ic, st₁, fr0, w0⟩
    rintro n s3 ⟨i, ys, σ3, H3, I3, st3, fr3, w3⟩
    rcases turn i n ys σ3 H3 w3 with ⟨stop, q⟩ | ⟨go, step⟩
    · subst hXc
      refine thn (Tn.done (X.comp Nc scope cl H2.objs.size s2 H1 fp) rfl rfl rfl hc i [] s3 σ3 H3 _ I3 (stat fr3) st3 stop) fun r s4 ⟨hr, I4⟩ => ?_
      subst hr
      obtain ⟨m4, hn4, _⟩ := id I4.loc
      exact ⟨m4, hn4, fun h' hs' => ⟨.ref s2.heap.objs.size, H3, comp_back I1 hCle f1 I4 hs', rfl, q⟩⟩
    · subst hXc
      refine thn (Tn.item (X.comp Nc scope cl H2.objs.size s2 H1 fp) rfl rfl rfl hc i [] s3 σ3 H3 _ I3 (stat fr3) st3 go) fun r s4 ⟨u, hr, h4⟩ => ?_
      subst hr
      refine thn h4 fun _ s5 ⟨x, H5, I5, r5, y5, st5, fr5⟩ => ?_
      have I5' := I5.pinned (stat fr5) (Tn.obj _ _ st5)
      have back : ∀ {σ7 : St} {H7 : Hp} {s7 : Shared}, Inv (X.comp Nc scope cl H2.objs.size s2 H1 fp) ([] ++ pinsAt fp s5.heap) σ7 H7 s7 → Inv (X.comp Nc scope cl H2.objs.size s2 H1 fp) [] σ7 H7 s7 ∧ tn (i + 1) s7.heap ∧ ∀ b ∈ fp, H7 b = none := fun {σ7 H7 s7} I7 => by
        refine ⟨I7.unpinned, Tn.keep _ _ _ st5 fun b hb o e => (I7.pin (b, o) (List.mem_append_right _ (List.mem_append_right _ (mem_pinsAt hb e)))).1, fun b hb => ?_⟩
        obtain ⟨o, e, d⟩ := Tn.obj _ _ st5 b hb
        exact (I7.pin (b, o) (List.mem_append_right _ (List.mem_append_right _ (mem_pinsAt hb e)))).2.1
      refine thn (hg _ _ _ _ _ s5 σ3 H5 x u _ I5' r5 (step x H5 y5)) fun _ s6 ⟨σ6, H6, I6, q6⟩ => ?_
      refine thnT (ht _ _ _ _ _ s6 σ6 H6 _ I6 q6) fun ok s7 H7 I7 q7 => ?_
      cases ok with
      | false =>
        rw [if_neg Bool.false_ne_true] at q7 ⊢
        obtain ⟨m', hm, w7⟩ := q7
        obtain ⟨J1, J2, J3⟩ := back I7
        exact ⟨m', hm, i + 1, ys, σ6, H7, J1, J2, J3, w7⟩
      | true =>
        rw [if_pos rfl] at q7 ⊢
        refine thnE (he _ _ _ _ _ s7 σ6 H7 _ I7 q7) fun y s8 yv H8 I8 r8 ⟨hp8, hl8, m', hm, w8⟩ => ?_
        refine thn (mt_append _ s8 σ6 H8 (.ref s2.heap.objs.size) [yv] _ [y] (fun v' H' => W (i + 1) m' (ys ++ [yv]) σ6 H') I8 rfl (.cons r8 .nil) ⟨_, ys, yv, rfl, rfl, hp8, hl8, w8⟩) fun v9 s9 ⟨_, H9, I9, _, w9⟩ => ?_
        obtain ⟨J1, J2, J3⟩ := back I9
        exact ⟨m', hm, i + 1, ys ++ [yv], σ6, H9, J1, J2, J3, w9⟩
  exact codeAny_compStart_list (loop _ rfl) (Tn.self _ 0 _ _ _ st₁ (loop _ rfl))
end
end L2
set_option Elab.async false
set_option linter.all false
set_option maxRecDepth 100000
namespace L2
open PySem PySem.Spec PyProof.Rows
section
variable {X : Cx}
def rInsert : V → List V → Hp → VK → Prop := fun x vs H Q => ∃ (l : Addr) (xs : List V) (i : Int) (y : V), x = .ref l ∧ vs = [.int i, y] ∧ H l = some (.lst xs) ∧ 0 ≤ i ∧ i ≤ xs.length ∧ xs.length < sizeLine ∧ Q .non (upd H l (.lst (xs.take i.toNat ++ y :: xs.drop i.toNat)))
theorem mt_insert : MtM X "list.insert" rInsert := by
  intro pins s σ H x vs v us Q I rx rv h
  obtain ⟨l, xs, i, y, rfl, rfl, hH, h0, hk, hz, q⟩ := h
  cases rx
  obtain ⟨u1, u2, rfl, ⟨t, rfl⟩, ru⟩ := rv.two
  obtain ⟨z, its, n, r, hl, e⟩ := I.lstM hH
  have hn := line63
  have hf : Builtin.List.listFitsIndex i = true := by
    unfold Builtin.List.listFitsIndex
    rw [Bool.and_eq_true]
    exact ⟨decide_eq_true (by omega), decide_eq_true (by omega)⟩
  have hf' : ¬ (!Builtin.List.listFitsIndex i) = true := by rw [hf]; decide
  have hzz : its.toArray.size ≤ sizeLine := by rw [List.size_toArray, ← hl]; exact z
  refine call_meets PySem.F.slot_list_insert ⟨_, e, rfl⟩ PySem.F.entry_list_insert (PySem.F.args_list_insert_3 _ _ _) (PySem.AutoSeq1.list_insert_list_int_val_1 l its.toArray n i t u2 hf' hzz) ⟨e, ?_⟩
  refine ⟨.non, _, I.lset (its' := its.take i.toNat ++ u2 :: its.drop i.toNat) hH e ?_ ((r.take i.toNat).append (.cons ru (r.drop i.toNat))) ?_, rfl, q⟩
  · show (its.toArray.extract 0 (if i < 0 then (i + (its.toArray.size : Int)).toNat else min i.toNat its.toArray.size)).push u2 ++ its.toArray.extract (if i < 0 then (i + (its.toArray.size : Int)).toNat else min i.toNat its.toArray.size) = _
    have e0 : (if i < 0 then (i + (its.toArray.size : Int)).toNat else min i.toNat its.toArray.size) = i.toNat := by
      rw [if_neg (by omega), List.size_toArray]
      omega
    rw [e0]
    exact PySem.W.kl_ins_eq its i.toNat u2
  · rw [List.length_append, List.length_cons, List.length_take, List.length_drop]
    omega
def rIsinst (K : PySem.W.Frag) : List V → Hp → VK → Prop := fun xs H Q => ∃ x c t b, xs = [x, c] ∧ TyOf K H x t ∧ (∀ cv, RelV c cv → PySem.W.kitOne K t cv = some b) ∧ Q (.bl b) H
theorem call_isinst : CallR X (.builtin "isinstance") (rIsinst X.K) := by
  intro pins s σ H xs us Q I r h
  obtain ⟨x, c, t, b, rfl, ty, hk, q⟩ := h
  obtain ⟨u, cv, rfl, ru, rc⟩ := vals2 r
  exact isinst_ok I ru ty (hk cv rc) fun tk => ⟨.bl b, H, I.tok tk, rfl, q⟩
theorem call_all (hc : X.calm = true) : CallR X (.builtin "all") (fun xs H Q => ∃ (p : Addr) (bs : List Bool), xs = [.ref p] ∧ SqL X.K H p (bs.map V.bl) ∧ Q (.bl (bs.all id)) H) := by
  intro pins s σ H xs us Q I r h
  obtain ⟨p, bs, rfl, hp, q⟩ := h
  obtain ⟨u, rfl, ru⟩ := vals1 r
  cases ru
  obtain ⟨its, rv, pl, hz⟩ := I.list hp
  have hl := pl.isList
  have hlt := pl.lt
  have hh : X.A.in1.handled = none := I.ok.hd hc
  have hlen : its.length = bs.length := by rw [← rv.length, List.length_map]
  refine call_all_walk (wpAny_pyIter_list hl ?_)
  refine ⟨s.heap.objs.size, [s.heap.objs.size, p], [s.heap.objs.size], its.toArray.size, _, _, fun i => (bs[i]?).getD true, rfl, Walks.list (A := X.A.in1) hh _ p (Nat.ne_of_lt hlt) its.toArray,
    ⟨⟨_, Heap.get?_push_size _ rfl, rfl, rfl⟩, hl.push _⟩, fun i v s' Q' E' hP hQ => ?_, fun h' tk hk => ?_⟩
  · have hi : its[i]? = some v := by simpa using hP
    have hib : i < bs.length := by rw [← hlen]; exact (List.getElem?_eq_some_iff.mp hi).1
    obtain ⟨u, hu, ru⟩ := rv.get (i := i) (x := V.bl bs[i]) (by rw [List.getElem?_map, List.getElem?_eq_getElem hib]; rfl)
    rw [hi] at hu; cases hu
    cases ru
    replace hQ : Q' (bs[i]?.getD true) s' := hQ
    rw [List.getElem?_eq_getElem hib] at hQ
    exact wpAny_truthy_bool hQ
  · have e : ((List.range its.toArray.size).all fun i => (bs[i]?).getD true) = bs.all id := by
      rw [List.size_toArray, hlen]
      rw [Bool.eq_iff_iff, List.all_eq_true, List.all_eq_true]
      constructor
      · intro z b hb
        obtain ⟨i, hi, rfl⟩ := List.getElem_of_mem hb
        have := z i (List.mem_range.mpr hi)
        rw [List.getElem?_eq_getElem hi] at this
        exact this
      · intro z i hi
        have hi' := List.mem_range.mp hi
        rw [List.getElem?_eq_getElem hi']
        exact z _ (List.getElem_mem hi')
    have kk : ∀ b o, s.heap.get? b = some o → h'.get? b = some o := fun b o eb => hk b o (fun hm => by rw [List.mem_singleton.mp hm] at eb; exact Nat.lt_irrefl _ (Heap.lt_size eb)) (Heap.get?_push_of_some _ eb)
    rw [e]
    exact ⟨.bl _, H, I.kept (t' := tk) kk, rfl, q⟩
end
mutual
inductive Deep (K : PySem.W.Frag) (H : Hp) : V → PyData → Prop
  | non : Deep K H .non .none
  | bl (b : Bool) : Deep K H (.bl b) (.bool b)
  | int (i : Int) : Deep K H (.int i) (.int i)
  | lst {a : Addr} {xs : List V} {ds : List PyData} : SqL K H a xs → DeepAll K H xs ds → Deep K H (.ref a) (.list ds)
  | tup {a : Addr} {xs : List V} {ds : List PyData} : SqT K H a xs → DeepAll K H xs ds → Deep K H (.ref a) (.tuple ds)
inductive DeepAll (K : PySem.W.Frag) (H : Hp) : List V → List PyData → Prop
  | nil : DeepAll K H [] []
  | cons {x : V} {d : PyData} {xs : List V} {ds : List PyData} : Deep K H x d → DeepAll K H xs ds → DeepAll K H (x :: xs) (d :: ds)
end
mutual
theorem Deep.reads {X : Cx} {pins : List (Addr × Obj)} {σ : St} {H : Hp} {s : Shared} (I : Inv X pins σ H s) : ∀ {x : V} {d : PyData} {u : Value}, Deep X.K H x d → RelV x u → (∃ as, Reads s.heap u d as) ∧ d.canLay0 = true
  | _, _, _, .non, r => by cases (show _ = Value.none from r); exact ⟨⟨_, .none⟩, by simp [PyData.canLay0]⟩
  | _, _, _, .bl b, r => by cases (show _ = Value.bool b from r); exact ⟨⟨_, .bool b⟩, by simp [PyData.canLay0]⟩
  | _, _, _, .int i, r => by obtain ⟨t, e⟩ := (show ∃ t, _ = Value.int i t from r); cases e; exact ⟨⟨_, .int i t⟩, by simp [PyData.canLay0]⟩
  | _, _, _, .lst (a := a) h hs, r => by
    cases (show _ = Value.ref a from r)
    obtain ⟨its, rv, ⟨o, n, e, c, _, dd⟩, hz⟩ := I.list h
    obtain ⟨⟨as, ra⟩, cl⟩ := DeepAll.reads I hs rv
    exact ⟨⟨_, .list e c dd (by simpa using ra)⟩, by simpa [PyData.canLay0] using cl⟩
  | _, _, _, .tup (a := a) h hs, r => by
    cases (show _ = Value.ref a from r)
    obtain ⟨its, rv, ⟨o, e, c, n, dd⟩, hz⟩ := I.tuple h
    obtain ⟨⟨as, ra⟩, cl⟩ := DeepAll.reads I hs rv
    exact ⟨⟨_, .tuple e c dd (by simpa using ra)⟩, by simpa [PyData.canLay0] using cl⟩
theorem DeepAll.reads {X : Cx} {pins : List (Addr × Obj)} {σ : St} {H : Hp} {s : Shared} (I : Inv X pins σ H s) : ∀ {xs : List V} {ds : List PyData} {us : List Value}, DeepAll X.K H xs ds → Vals xs us → (∃ as, ReadsAll s.heap us ds as) ∧ PyData.canLayAll0 ds = true
  | _, _, _, .nil, .nil => ⟨⟨_, .nil⟩, by simp [PyData.canLayAll0]⟩
  | _, _, _, .cons h hs, .cons r rs => by
    obtain ⟨⟨as, ra⟩, c1⟩ := Deep.reads I h r
    obtain ⟨⟨bs, rb⟩, c2⟩ := DeepAll.reads I hs rs
    exact ⟨⟨_, .cons ra rb⟩, by simp [PyData.canLayAll0, c1, c2]⟩
end
section
variable {X : Cx}
def rEqD (K : PySem.W.Frag) : R2 := fun x y H Q => ∃ d e, Deep K H x d ∧ Deep K H y e ∧ d.depth ≤ 40 ∧ Q (.bl (PyData.eqv d e)) H
theorem op_eqD (hu : X.A.units + 64 < cLine) : OpR X (compareOp .Eq) (rEqD X.K) := by
  intro pins s σ H x y v u Q I rx ry h
  obtain ⟨d, e, hd, he, hp, q⟩ := h
  obtain ⟨⟨as, ra⟩, ca⟩ := hd.reads I rx
  obtain ⟨⟨bs, rb⟩, cb⟩ := he.reads I ry
  exact PySem.SeqAt.compareEq_reads ra rb ca cb (by omega) ⟨.bl _, H, I, rfl, q⟩
end
end L2
set_option Elab.async false
set_option linter.all false
set_option maxRecDepth 100000
namespace L2
open PySem PySem.Spec PyProof.Rows
section
variable {P : Program} {w : World} {A : Around} {E : Value → Shared → Prop} {s : Shared}
end
end L2
set_option Elab.async false
set_option linter.all false
set_option maxRecDepth 100000
namespace L2
open PySem PySem.Spec PyProof.Rows
section
variable {P : Program} {w : World} {A : Around} {E : Value → Shared → Prop} {s : Shared} {l1 l2 : Addr} {ob1 ob2 : Obj} {src1 src2 : Heap → Array Value → Prop} {at1 at2 : Addr → Nat → Heap → Prop}
end
def SqX (K : PySem.W.Frag) : Bool → Hp → Addr → List V → Prop
  | true, H, a, xs => SqL K H a xs
  | false, H, a, xs => SqT K H a xs
def Itz (K : PySem.W.Frag) (c d : Bool) (a b : Addr) : It :=
  ⟨fun i H => ∃ xs ys x y, SqX K c H a xs ∧ SqX K d H b ys ∧ xs[i]? = some x ∧ ys[i]? = some y,
   fun i H v H' => ∃ p x y, H p = none ∧ v = .ref p ∧ H' = upd H p (.tup [x, y]) ∧ (∀ xs, SqX K c H a xs → xs[i]? = some x) ∧ ∀ ys, SqX K d H b ys → ys[i]? = some y,
   fun i H => ∃ xs ys, SqX K c H a xs ∧ SqX K d H b ys ∧ (xs.length ≤ i ∨ ys.length ≤ i)⟩
end L2
set_option Elab.async false
set_option linter.all false
set_option maxRecDepth 100000
namespace L2
open PySem PySem.Spec PyProof.Rows
section
variable {X : Cx} {pins : List (Addr × Obj)} {σ : St} {H H2 : Hp} {s s2 : Shared} {a : Addr} {o : HO}
end
theorem lri_no_len : typeLookup (.type "list_reverseiterator") "__len__" = pure none := by rw [typeLookup_type, builtinLookup_eq_fast]; kernel_rfl
theorem lri_hint : typeLookup (.type "list_reverseiterator") "__length_hint__" = pure (some (.builtin "list_reverseiterator.__length_hint__")) := by rw [typeLookup_type, builtinLookup_eq_fast]; kernel_rfl
section
variable {P : Program} {w : World} {A : Around} {E : Value → Shared → Prop} {s : Shared}
theorem hint_rev {it : Addr} {Q : Bool → Shared → Prop} (hT : s.TypeIs (.ref it) "list_reverseiterator") (h : Q false s) : wpAny (model P w) A (Builtin.List.listLengthHint (.ref it)) Q E s := by
  unfold Builtin.List.listLengthHint
  refine wpAny_bind (wpAny_specialOf hT lri_no_len ?_)
  refine wpAny_ite_split (fun hab => absurd hab (by decide)) (fun _ => ?_)
  refine wpAny_ite_split (fun hab => absurd hab (by decide)) (fun _ => ?_)
  refine wpAny_bind (wpAny_specialOf hT lri_hint ?_)
  generalize hid : ("list_reverseiterator.__length_hint__" : String) = id0
  wp_delta
  rw [show splitId id0 = some ("list_reverseiterator", "__length_hint__") from by subst hid; decide +kernel]
  subst hid
  refine wpAny_bind (wpAny_isInstance (T := "list_reverseiterator") (b := true) hT (by rw [isSubtype_type]; kernel_rfl) ?_)
  refine wpAny_ite_split (fun hab => absurd hab (by decide)) (fun _ => ?_)
  refine wpAny_ite_split (fun _ => ?_) (fun hab => absurd (by decide +kernel) hab)
  refine wpAny_ite_split (fun hab => absurd hab (by decide +kernel)) (fun _ => ?_)
  exact wpAny_pure h
end
end L2
set_option Elab.async false
set_option linter.all false
set_option maxRecDepth 100000
namespace L2
open PySem PySem.Spec PyProof.Rows
def RevAt (I l : Addr) (its : Array Value) (i : Nat) (h : Heap) : Prop := i ≤ its.size ∧ h.IsRevIter I l ((its.size : Int) - 1 - (i : Int)) ∧ h.IsList l its
def RevP (its : Array Value) (i : Nat) (v : Value) : Prop := its[its.size - 1 - i]? = some v
section
variable {P : Program} {w : World} {A : Around} {E : Value → Shared → Prop} {s : Shared} {R : Result → Shared → Prop}
theorem extend_rev (hh : A.handled = none) {I l S : Addr} {its : Array Value} {res : Value} {c0 : Nat} (st : RevAt I l its 0 s.heap) (ne : l ≠ I) (n1 : S ≠ I) (n2 : S ≠ l) (hz : its.size ≤ sizeLine)
    (hS : s.heap.get? S = some { cls := .type "list", data := .seq #[] c0 })
    (hR : ∀ s' acc c', Moved [S, I] (fun a b => b = a) s s' → s'.heap.get? S = some { cls := .type "list", dict := none, data := .seq acc c', slots := #[] } → ItemsOf (RevP its) acc its.size → R (.ok (.ret res)) s') :
    wpAny (model P w) A.in1 (Builtin.List.listExtendWith (.ref S) (.ref I) res) (fun fn s' => match fn with | .done f => R (.ok f) s' | .again c' => c'.quiet = true ∧ codeAny (model P w) A c' R s') (fun e s' => R (.error e) s') s := by
  have W := (Walks.listRev (prog := P) (w := w) (A := A.in1) hh I l ne its).toS
  have hT : s.TypeIs (.ref I) "list_reverseiterator" := st.2.1.typeIs
  unfold Builtin.List.listExtendWith
  refine wpAny_bind (wpAny_typeOf hT ?_)
  have t1 : Builtin.List.listSameRef (.ref S) (.ref I) = false := by simp [Builtin.List.listSameRef, n1]
  have t2 : (Value.type "list_reverseiterator" == Value.type "list") = false := by decide
  have t3 : (Value.type "list_reverseiterator" == Value.type "tuple") = false := by decide
  simp only [t1, t2, t3, Bool.or_false, Bool.false_eq_true, if_false]
  refine wpAny_bind (wpAny_pyIter_revIter st.2.1 ?_)
  refine wpAny_bind (wpAny_holding (hint_rev hT ?_))
  refine wpAny_ite_split (fun hab => absurd hab (by decide +kernel)) (fun _ => ?_)
  refine wpAny_pure ⟨plainId_quiet F.plain_extend_loop _, codeAny_extend_loopS W hz S (by simp [n1, n2]) res its.size 0 _ #[] c0 rfl (Nat.zero_le _) st hS (ItemsOf.nil _) fun s' acc c' hm hS' hacc => ?_⟩
  exact hR s' acc c' hm hS' hacc
theorem collect_rev (hh : A.handled = none) {I l : Addr} {its : Array Value} {Q : List Value → Shared → Prop} (st : RevAt I l its 0 s.heap) (ne : l ≠ I) (hz : its.size ≤ sizeLine)
    (hQ : ∀ (s' : Shared) (acc : Array Value), s'.os = s.os → s'.gens = s.gens → s'.drawn = s.drawn → (∀ b o, b ≠ I → s.heap.get? b = some o → s'.heap.get? b = some o) → s.heap.objs.size ≤ s'.heap.objs.size → ItemsOf (RevP its) acc its.size → Q acc.toList s') : wpAny (model P w) A (collect (.ref I)) Q E s := by
  obtain ⟨oI, hoI, _⟩ := id st.2.1
  obtain ⟨ol, hol, _⟩ := id st.2.2
  have n1 : s.heap.objs.size ≠ I := Nat.ne_of_gt (Heap.lt_size hoI)
  have n2 : s.heap.objs.size ≠ l := Nat.ne_of_gt (Heap.lt_size hol)
  unfold collect
  refine wpAny_bind (wpAny_runValue (codeAny_builtin F.entry_proto_collect ?_))
  rw [Around.under_plainId F.plain_proto_collect _]
  show wpAny (model P w) A.in1 (newList [] >>= fun l => again (.builtin "list.__iadd__" ⟨[l, .ref I], []⟩)) _ _ s
  refine wpAny_bind (wpAny_newObj_type ?_)
  refine wpAny_pure ⟨plainId_quiet F.plain_list_iadd _, codeAny_builtin F.entry_list_iadd ?_⟩
  rw [Around.under_plainId F.plain_list_iadd _]
  have kk : ∀ b o, s.heap.get? b = some o → (s.heap.push { cls := .type "list", data := .seq ([] : List Value).toArray }).get? b = some o := fun b o e => Heap.get?_push_of_some _ e
  show wpAny (model P w) A.in1 (Builtin.List.listExtendWith (.ref s.heap.objs.size) (.ref I) (.ref s.heap.objs.size)) _ _ _
  have b1 : (s.heap.push { cls := .type "list", data := .seq ([] : List Value).toArray }).get? s.heap.objs.size = some { cls := .type "list", data := .seq #[] } := Heap.get?_push_size _ rfl
  refine extend_rev (R := wants _ _) (s := { s with heap := s.heap.push { cls := .type "list", data := .seq ([] : List Value).toArray } }) hh (I := I) (l := l) (its := its) ⟨st.1, st.2.1.at fun o e => kk _ o e, st.2.2.at fun o e => kk _ o e⟩ ne n1 n2 hz b1 fun s' acc c' hm hS' hacc => ?_
  show wpAny (model P w) A (load s.heap.objs.size >>= _) _ _ s'
  refine wpAny_bind (wpAny_load hS' (wpAny_pure (hQ s' acc hm.os hm.gens hm.drawn (fun b o hb e => hm.heap b o (fun z => ?_) (kk b o e)) (Nat.le_of_lt (Heap.lt_size hS')) hacc)))
  simp only [List.mem_cons, List.mem_nil_iff, or_false] at z
  rcases z with z | z
  · exact absurd (Heap.lt_size e) (by rw [z]; exact Nat.lt_irrefl _)
  · exact hb z
end
theorem rev_items {its acc : List Value} (h : ItemsOf (RevP its.toArray) acc.toArray its.toArray.size) : acc = its.reverse := by
  obtain ⟨h1, h2⟩ := h
  simp only [List.size_toArray] at h1
  refine List.ext_getElem? fun j => ?_
  by_cases hj : j < acc.length
  · have q := h2 j acc[j] (by simp [hj])
    unfold RevP at q
    rw [List.getElem?_eq_getElem hj, List.getElem?_reverse (by omega)]
    simp only [List.size_toArray, List.getElem?_toArray] at q
    exact q.symm
  · rw [List.getElem?_eq_none (by omega), List.getElem?_eq_none (by rw [List.length_reverse]; omega)]
section
variable {X : Cx} {e : Expr} {te : TE} {p1 p2 pos pos2 : Pos}
theorem rev_arg {pins : List (Addr × Obj)} {s : Shared} {σ : St} {H : Hp} {R : List Value → Shared → Prop} (hg : Gl X "reversed") (hm : X.mg "reversed" = none) (he : PE X e te) (I : Inv X pins σ H s) {Q' : V → Hp → Prop} (h : te σ H Q')
    (h1 : starEach [.Call (.Name "reversed" p2) [e] [] pos2] X.env = [(false, eval (.Call (.Name "reversed" p2) [e] [] pos2) X.env)]) (h2 : starEach [e] X.env = [(false, eval e X.env)])
    (k : ∀ s1 H1 x a ys (its : List Value), Inv X pins σ H1 s1 → Q' x H1 → x = .ref a → SqL X.K H1 a ys → Vals ys its → RevAt s1.heap.objs.size a its.toArray 0 (s1.heap.push (revObj a ((its.toArray.size : Int) - 1))) → a ≠ s1.heap.objs.size → its.toArray.size ≤ sizeLine →
      R [.ref s1.heap.objs.size] { s1 with heap := s1.heap.push (revObj a ((its.toArray.size : Int) - 1)) })
    (sq : ∀ x H1, Q' x H1 → ∃ a ys, x = .ref a ∧ SqL X.K H1 a ys) :
    wpAny (model X.prog X.w) X.A (spliced (backTo pos (starEach [.Call (.Name "reversed" p2) [e] [] pos2] X.env))) R X.xe s := by
  rw [h1]
  show wpAny _ _ (spliced ((false, eval (.Call (.Name "reversed" p2) [e] [] pos2) X.env) :: backTo pos [])) _ _ s
  refine Calls.spliced_cons ?_
  refine Call_ (ld_blt I hg hm boot_reversed (PyProof.Rows.callWith_type1 ?_ h2 rfl))
  rw [h2]
  show wpAny _ _ (spliced ((false, eval e X.env) :: backTo pos2 [])) _ _ s
  refine Calls.spliced_cons (thnE (he pins s σ H _ I h) fun u s1 x H1 I1 r1 q1 => Calls.spliced_nil ?_)
  obtain ⟨a, ys, ex, sa⟩ := sq x H1 q1
  subst ex
  cases r1
  obtain ⟨its, rv, pl, hz⟩ := I1.list sa
  have ne : a ≠ s1.heap.objs.size := Nat.ne_of_lt pl.lt
  refine call_reversed_list pl.isList (Calls.spliced_nil ?_)
  refine k s1 H1 _ a ys its I1 q1 rfl sa rv ⟨Nat.zero_le _, ⟨_, Heap.get?_push_size _ rfl, rfl, ?_⟩, pl.isList.push _⟩ ne (by rw [List.size_toArray, ← rv.length]; exact hz)
  simp [revObj]
end
end L2
set_option Elab.async false
set_option linter.all false
set_option maxRecDepth 100000
namespace L2
open PySem PySem.Spec PyProof.Rows
section
variable {X : Cx}
def iZip (K : PySem.W.Frag) (c d : Bool) (ta : TA) : TI := fun σ H R => ta σ H fun vs H1 => ∃ a b, vs = [.ref a, .ref b] ∧ (∃ xs, SqX K c H1 a xs) ∧ (∃ ys, SqX K d H1 b ys) ∧ R (Itz K c d a b) H1
end
end L2
set_option linter.all false
namespace Pb
structure Road where
  a : Int
  b : Int
  t : Int
  u : Int
  deriving DecidableEq
def Joined (m : Int) (rs : List Road) : Prop := ∀ S : Int → Prop, S 0 → (∀ r ∈ rs, (S r.a ↔ S r.b)) → ∀ v, 0 ≤ v → v < m → S v
structure RoadOk (m : Int) (r : Road) : Prop where
  a0 : 0 ≤ r.a
  a1 : r.a < m
  b0 : 0 ≤ r.b
  b1 : r.b < m
  ne : r.a ≠ r.b
  t0 : 2 ≤ r.t
  t1 : r.t ≤ 1000000
  u0 : 2 ≤ r.u
  u1 : r.u ≤ 1000000
structure Good (m : Int) (rs : List Road) : Prop where
  m1 : 1 ≤ m
  m24 : m ≤ 24
  len : (rs.length : Int) = m - 1
  ok : ∀ r ∈ rs, RoadOk m r
  jn : Joined m rs
theorem nodup_le {α : Type} [DecidableEq α] : ∀ {l l' : List α}, l.Nodup → (∀ x ∈ l, x ∈ l') → l.length ≤ l'.length
  | [], _, _, _ => Nat.zero_le _
  | x :: r, l', hn, hs => by
    obtain ⟨h1, h2⟩ := List.nodup_cons.mp hn
    have hx : x ∈ l' := hs x List.mem_cons_self
    have : r.length ≤ (l'.erase x).length := nodup_le h2 fun y hy => (List.mem_erase_of_ne (fun (e : y = x) => h1 (by rw [← e]; exact hy))).mpr (hs y (List.mem_cons_of_mem _ hy))
    rw [List.length_erase_of_mem hx] at this
    have hp : 0 < l'.length := List.length_pos_of_mem hx
    rw [List.length_cons]
    omega
def below (n : Nat) : List Int := (List.range n).map fun (k : Nat) => (k : Int)
theorem mem_below {n : Nat} {v : Int} : v ∈ below n ↔ 0 ≤ v ∧ v < n := by
  unfold below
  rw [List.mem_map]
  constructor
  · rintro ⟨k, hk, rfl⟩
    have := List.mem_range.mp hk
    omega
  · rintro ⟨h0, h1⟩
    exact ⟨v.toNat, List.mem_range.mpr (by omega), by omega⟩
theorem below_length (n : Nat) : (below n).length = n := by simp [below]
theorem nodup_below (n : Nat) : (below n).Nodup := by
  unfold below
  refine List.Pairwise.map _ (fun a b h => ?_) (List.nodup_range (n := n))
  intro e
  exact h (by omega)
theorem nodup_len {m : Int} {l : List Int} (hm : 0 ≤ m) (hn : l.Nodup) (h : ∀ x ∈ l, 0 ≤ x ∧ x < m) : (l.length : Int) ≤ m := by
  have := nodup_le (l' := below m.toNat) hn fun x hx => mem_below.mpr ⟨(h x hx).1, by have := (h x hx).2; omega⟩
  rw [below_length] at this
  omega
theorem full_len {m : Int} {l : List Int} (hm : 0 ≤ m) (h : ∀ v, 0 ≤ v → v < m → v ∈ l) : m ≤ (l.length : Int) := by
  have := nodup_le (l := below m.toNat) (l' := l) (nodup_below _) fun x hx => by
    obtain ⟨h0, h1⟩ := mem_below.mp hx
    exact h x h0 (by omega)
  rw [below_length] at this
  omega
def ends1 (p : Int) (r : Road) : List Int := (if r.a = p then [r.b] else []) ++ (if r.b = p then [r.a] else [])
def ends (rs : List Road) (p : Int) : List Int := rs.flatMap (ends1 p)
theorem mem_ends {rs : List Road} {p e : Int} : e ∈ ends rs p ↔ ∃ r ∈ rs, (r.a = p ∧ r.b = e) ∨ (r.b = p ∧ r.a = e) := by
  unfold ends ends1
  rw [List.mem_flatMap]
  constructor
  · rintro ⟨r, hr, h⟩
    refine ⟨r, hr, ?_⟩
    rcases List.mem_append.mp h with h | h
    · by_cases c : r.a = p
      · rw [if_pos c] at h
        exact .inl ⟨c, (List.mem_singleton.mp h).symm⟩
      · rw [if_neg c] at h; cases h
    · by_cases c : r.b = p
      · rw [if_pos c] at h
        exact .inr ⟨c, (List.mem_singleton.mp h).symm⟩
      · rw [if_neg c] at h; cases h
  · rintro ⟨r, hr, h⟩
    refine ⟨r, hr, List.mem_append.mpr ?_⟩
    rcases h with ⟨h1, h2⟩ | ⟨h1, h2⟩
    · exact .inl (by rw [if_pos h1, h2]; exact List.mem_singleton.mpr rfl)
    · exact .inr (by rw [if_pos h1, h2]; exact List.mem_singleton.mpr rfl)
theorem ends_len (rs : List Road) (p : Int) : (ends rs p).length ≤ 2 * rs.length := by
  unfold ends
  induction rs with
  | nil => simp
  | cons r rs ih =>
    rw [List.flatMap_cons, List.length_append, List.length_cons]
    have : (ends1 p r).length ≤ 2 := by
      unfold ends1
      rw [List.length_append]
      by_cases c : r.a = p <;> by_cases d : r.b = p <;> simp [c, d]
    omega
theorem ends_snoc (rs : List Road) (r : Road) (p : Int) : ends (rs ++ [r]) p = ends rs p ++ ends1 p r := by
  unfold ends
  rw [List.flatMap_append]
  simp
def jstep (c : List Int × List Int) (e : Int) : List Int × List Int := if e ∈ c.1 then c else (c.1 ++ [e], c.2 ++ [e])
structure JInv (m : Int) (rs : List Road) (ks ws : List Int) : Prop where
  nd : ks.Nodup
  zero : 0 ∈ ks
  rng : ∀ k ∈ ks, 0 ≤ k ∧ k < m
  sub : ∀ w ∈ ws, w ∈ ks
  cl : ∀ k ∈ ks, k ∉ ws → ∀ e ∈ ends rs k, e ∈ ks
  wl : ws.length ≤ ks.length
theorem nodup_snoc {l : List Int} {e : Int} (h : l.Nodup) (he : e ∉ l) : (l ++ [e]).Nodup := by
  rw [List.nodup_append]
  refine ⟨h, by simp, fun a ha b hb => ?_⟩
  rw [List.mem_singleton.mp hb]
  exact fun z => he (z ▸ ha)
structure JMid (m : Int) (rs : List Road) (p : Int) (es ks ws ks0 : List Int) (n0 : Nat) : Prop where
  nd : ks.Nodup
  zero : 0 ∈ ks
  rng : ∀ k ∈ ks, 0 ≤ k ∧ k < m
  sub : ∀ w ∈ ws, w ∈ ks
  cl : ∀ k ∈ ks, k ∉ ws → k = p ∨ ∀ e ∈ ends rs k, e ∈ ks
  seen : ∀ e ∈ es, e ∈ ks
  pin : p ∈ ks
  mu : ks.length + n0 = ks0.length + ws.length
  up : ks0.length ≤ ks.length
  wl : ws.length ≤ ks.length
theorem JMid.start {m : Int} {rs : List Road} {ks ws : List Int} {p : Int} (h : JInv m rs ks (ws ++ [p])) : JMid m rs p [] ks ws ks ws.length where
  nd := h.nd
  zero := h.zero
  rng := h.rng
  sub := fun w hw => h.sub w (List.mem_append_left _ hw)
  cl := fun k hk hw => by
    by_cases e : k = p
    · exact .inl e
    · exact .inr (h.cl k hk fun z => by
        rcases List.mem_append.mp z with z | z
        · exact hw z
        · exact e (List.mem_singleton.mp z))
  seen := fun e he => by cases he
  pin := h.sub p (List.mem_append_right _ (List.mem_singleton.mpr rfl))
  mu := rfl
  up := Nat.le_refl _
  wl := by have := h.wl; rw [List.length_append] at this; simp at this; omega
theorem JMid.step {m : Int} {rs : List Road} {p : Int} {es ks ws ks0 : List Int} {n0 : Nat} {e : Int} (h : JMid m rs p es ks ws ks0 n0) (h0 : 0 ≤ e) (h1 : e < m) :
    JMid m rs p (es ++ [e]) (jstep (ks, ws) e).1 (jstep (ks, ws) e).2 ks0 n0 := by
  unfold jstep
  by_cases c : e ∈ ks
  · rw [if_pos c]
    refine ⟨h.nd, h.zero, h.rng, h.sub, h.cl, fun x hx => ?_, h.pin, h.mu, h.up, h.wl⟩
    rcases List.mem_append.mp hx with z | z
    · exact h.seen x z
    · rw [List.mem_singleton.mp z]; exact c
  · rw [if_neg c]
    dsimp only
    refine ⟨nodup_snoc h.nd c, List.mem_append_left _ h.zero, fun k hk => ?_, fun w hw => ?_, fun k hk hw => ?_, fun x hx => ?_, List.mem_append_left _ h.pin, ?_, by have := h.up; simp; omega, by have := h.wl; simp; exact this⟩
    · rcases List.mem_append.mp hk with z | z
      · exact h.rng k z
      · rw [List.mem_singleton.mp z]; exact ⟨h0, h1⟩
    · rcases List.mem_append.mp hw with z | z
      · exact List.mem_append_left _ (h.sub w z)
      · exact List.mem_append_right _ z
    · rcases List.mem_append.mp hk with z | z
      · rcases h.cl k z fun y => hw (List.mem_append_left _ y) with y | y
        · exact .inl y
        · exact .inr fun x hx => List.mem_append_left _ (y x hx)
      · exact absurd (List.mem_append_right _ z) hw
    · rcases List.mem_append.mp hx with z | z
      · exact List.mem_append_left _ (h.seen x z)
      · exact List.mem_append_right _ z
    · have := h.mu
      simp only [List.length_append, List.length_cons, List.length_nil]
      omega
theorem JMid.done {m : Int} {rs : List Road} {p : Int} {ks ws ks0 : List Int} {n0 : Nat} (h : JMid m rs p (ends rs p) ks ws ks0 n0) : JInv m rs ks ws where
  nd := h.nd
  zero := h.zero
  rng := h.rng
  sub := h.sub
  cl := fun k hk hw => by
    rcases h.cl k hk hw with z | z
    · rw [z]; exact h.seen
    · exact z
  wl := h.wl
theorem JInv.start {m : Int} {rs : List Road} (hm : 1 ≤ m) : JInv m rs [0] [0] where
  nd := by simp
  zero := by simp
  rng := fun k hk => by rw [List.mem_singleton.mp hk]; omega
  sub := fun w hw => hw
  cl := fun k hk hw => absurd hk hw
  wl := by simp
theorem JInv.all {m : Int} {rs : List Road} {ks : List Int} (h : JInv m rs ks []) (hm : 1 ≤ m) (j : Joined m rs) : (ks.length : Int) = m := by
  have up := nodup_len (by omega) h.nd h.rng
  have : ∀ v, 0 ≤ v → v < m → v ∈ ks := j (fun v => v ∈ ks) h.zero fun r hr => by
    constructor
    · intro ha
      exact h.cl r.a ha (by simp) r.b (mem_ends.mpr ⟨r, hr, .inl ⟨rfl, rfl⟩⟩)
    · intro hb
      exact h.cl r.b hb (by simp) r.a (mem_ends.mpr ⟨r, hr, .inr ⟨rfl, rfl⟩⟩)
  have := full_len (by omega) this
  omega
theorem ends_rng {m : Int} {rs : List Road} (h : ∀ r ∈ rs, RoadOk m r) {p e : Int} (he : e ∈ ends rs p) : 0 ≤ e ∧ e < m := by
  obtain ⟨r, hr, z⟩ := mem_ends.mp he
  have k := h r hr
  rcases z with ⟨_, rfl⟩ | ⟨_, rfl⟩
  · exact ⟨k.b0, k.b1⟩
  · exact ⟨k.a0, k.a1⟩
structure Row where
  k : Int
  un : Int
  t : Int
  u : Int
  sw : Int
  sp : Int
structure RowOk (r : Row) : Prop where
  u0 : 0 ≤ r.un
  u1 : r.un < r.k
  t0 : 2 ≤ r.t
  t1 : r.t ≤ 1000000
  v0 : 2 ≤ r.u
  v1 : r.u ≤ 1000000
  s0 : 0 ≤ r.sp
  s1 : r.sp < r.k
structure Rows (n : Nat) (rows : List Row) : Prop where
  len : rows.length = n
  ok : ∀ (i : Nat) (r : Row), rows[i]? = some r → r.k = (i : Int) + 1 ∧ RowOk r
structure Labels (n : Nat) (ls : List Int) : Prop where
  len : ls.length = n
  nd : ls.Nodup
  all : ∀ v : Int, 0 ≤ v → v < n → v ∈ ls
  rng : ∀ v ∈ ls, 0 ≤ v ∧ v < n
theorem Labels.nil : Labels 0 [] := ⟨rfl, by simp, fun v h0 h1 => (by omega), fun v h => (by cases h)⟩
theorem mem_insert {α : Type} {l : List α} {k : Nat} {x y : α} : y ∈ l.take k ++ x :: l.drop k ↔ y = x ∨ y ∈ l := by
  rw [List.mem_append, List.mem_cons]
  constructor
  · rintro (h | h | h)
    · exact .inr (List.mem_of_mem_take h)
    · exact .inl h
    · exact .inr (List.mem_of_mem_drop h)
  · rintro (h | h)
    · exact .inr (.inl h)
    · rw [← List.take_append_drop k l] at h
      rcases List.mem_append.mp h with z | z
      · exact .inl z
      · exact .inr (.inr z)
theorem Labels.put {n : Nat} {ls : List Int} (h : Labels n ls) (k : Nat) (hk : k ≤ n) : Labels (n + 1) (ls.take k ++ (n : Int) :: ls.drop k) where
  len := by
    rw [List.length_append, List.length_cons, List.length_take, List.length_drop, h.len]
    omega
  nd := by
    have p : (ls.take k ++ (n : Int) :: ls.drop k).Perm ((n : Int) :: ls) := by
      refine List.perm_middle.trans ?_
      rw [List.take_append_drop]
    refine p.nodup_iff.mpr (List.nodup_cons.mpr ⟨fun z => ?_, h.nd⟩)
    have := (h.rng _ z).2
    omega
  all := fun v h0 h1 => by
    rw [mem_insert]
    by_cases e : v = n
    · exact .inl e
    · exact .inr (h.all v h0 (by omega))
  rng := fun v hv => by
    rcases mem_insert.mp hv with z | z
    · omega
    · have := h.rng v z
      omega
def roadOf (ls : List Int) (r : Row) : Road := if r.sw = 1 then ⟨ls.getD r.un.toNat 0, ls.getD r.k.toNat 0, r.t, r.u⟩ else ⟨ls.getD r.k.toNat 0, ls.getD r.un.toNat 0, r.t, r.u⟩
structure Put (ls : List Int) (rows : List Row) (rs : List Road) : Prop where
  len : rs.length = rows.length
  of : ∀ r ∈ rs, ∃ w ∈ rows, r = roadOf ls w
  to : ∀ w ∈ rows, roadOf ls w ∈ rs
theorem Put.nil (ls : List Int) : Put ls [] [] := ⟨rfl, fun r h => (by cases h), fun r h => (by cases h)⟩
theorem Put.step {ls : List Int} {rows : List Row} {rs : List Road} (h : Put ls rows rs) (w : Row) (k : Nat) : Put ls (rows ++ [w]) (rs.take k ++ roadOf ls w :: rs.drop k) where
  len := by
    rw [List.length_append, List.length_cons, List.length_take, List.length_drop, List.length_append, h.len]
    simp
    omega
  of := fun r hr => by
    rcases mem_insert.mp hr with z | z
    · exact ⟨w, by simp, z⟩
    · obtain ⟨w', hw, e⟩ := h.of r z
      exact ⟨w', List.mem_append_left _ hw, e⟩
  to := fun w' hw => by
    rw [mem_insert]
    rcases List.mem_append.mp hw with z | z
    · exact .inr (h.to w' z)
    · exact .inl (by rw [List.mem_singleton.mp z])
theorem getD_of {ls : List Int} {n : Nat} (h : Labels n ls) {i : Nat} (hi : i < n) : ls[i]? = some (ls.getD i 0) := by
  have : i < ls.length := by rw [h.len]; exact hi
  simp [List.getD, List.getElem?_eq_getElem this]
theorem getD_mem {ls : List Int} {n : Nat} (h : Labels n ls) {i : Nat} (hi : i < n) : ls.getD i 0 ∈ ls := List.mem_of_getElem? (getD_of h hi)
theorem getD_inj {ls : List Int} {n : Nat} (h : Labels n ls) {i j : Nat} (hi : i < n) (hj : j < n) (e : ls.getD i 0 = ls.getD j 0) : i = j := by
  have h1 : i < ls.length := by rw [h.len]; exact hi
  have h2 : j < ls.length := by rw [h.len]; exact hj
  have e1 := getD_of h hi
  have e2 := getD_of h hj
  rw [e] at e1
  have e3 : ls[i]'h1 = ls[j]'h2 := by
    rw [List.getElem?_eq_getElem h1] at e1
    rw [List.getElem?_eq_getElem h2] at e2
    exact Option.some.inj (e1.trans e2.symm)
  have nd := List.pairwise_iff_getElem.mp h.nd
  rcases Nat.lt_trichotomy i j with z | z | z
  · exact absurd e3 (nd i j h1 h2 z)
  · exact z
  · exact absurd e3.symm (nd j i h2 h1 z)
theorem good_of {n : Nat} {ls : List Int} {rows : List Row} {rs : List Road} (h1 : 1 ≤ n) (h24 : n ≤ 24) (L : Labels n ls) (W : Rows (n - 1) rows) (P : Put ls rows rs) : Good n rs where
  m1 := by omega
  m24 := by omega
  len := by rw [P.len, W.len]; omega
  ok := fun r hr => by
    obtain ⟨w, hw, rfl⟩ := P.of r hr
    obtain ⟨i, hi⟩ := List.getElem?_of_mem hw
    obtain ⟨ek, ok⟩ := W.ok i w hi
    have hil : i < rows.length := (List.getElem?_eq_some_iff.mp hi).1
    rw [W.len] at hil
    have hk : w.k.toNat < n := by omega
    have hu : w.un.toNat < n := by have := ok.u0; have := ok.u1; omega
    have r1 := L.rng _ (getD_mem L hk)
    have r2 := L.rng _ (getD_mem L hu)
    have ne : ls.getD w.k.toNat 0 ≠ ls.getD w.un.toNat 0 := fun e => by
      have := getD_inj L hk hu e
      have := ok.u0; have := ok.u1
      omega
    unfold roadOf
    by_cases c : w.sw = 1
    · rw [if_pos c]
      exact ⟨r2.1, r2.2, r1.1, r1.2, ne.symm, ok.t0, ok.t1, ok.v0, ok.v1⟩
    · rw [if_neg c]
      exact ⟨r1.1, r1.2, r2.1, r2.2, ne, ok.t0, ok.t1, ok.v0, ok.v1⟩
  jn := by
    intro S s0 hS
    -- the label of each place is reached just where that of the place 0 of the labels is
    have key : ∀ i : Nat, i < n → (S (ls.getD i 0) ↔ S (ls.getD 0 0)) := by
      intro i
      induction i using Nat.strongRecOn with
      | ind i ih =>
        intro hi
        by_cases z : i = 0
        · rw [z]
        · have hil : i - 1 < rows.length := by rw [W.len]; omega
          obtain ⟨ek, ok⟩ := W.ok (i - 1) rows[i - 1] (List.getElem?_eq_getElem hil)
          have hm := P.to rows[i - 1] (List.getElem_mem hil)
          have hr := hS _ hm
          have hk : (rows[i - 1]).k.toNat = i := by omega
          have hu : (rows[i - 1]).un.toNat < i := by have := ok.u0; have := ok.u1; omega
          have hh := ih _ hu (by omega)
          unfold roadOf at hr
          rw [hk] at hr
          by_cases c : (rows[i - 1]).sw = 1
          · rw [if_pos c] at hr
            exact hr.symm.trans hh
          · rw [if_neg c] at hr
            exact hr.trans hh
    have at_ : ∀ v, 0 ≤ v → v < (n : Int) → ∃ i, i < n ∧ ls.getD i 0 = v := fun v h0 h1 => by
      obtain ⟨i, hi⟩ := List.getElem?_of_mem (L.all v h0 h1)
      have hil : i < n := by have := (List.getElem?_eq_some_iff.mp hi).1; rw [L.len] at this; exact this
      refine ⟨i, hil, ?_⟩
      have := getD_of L hil
      rw [hi] at this
      exact (Option.some.inj this).symm
    intro v h0 hv
    obtain ⟨i, hi, rfl⟩ := at_ v h0 hv
    obtain ⟨j, hj, ej⟩ := at_ 0 (by omega) (by omega)
    refine (key i hi).mpr ((key j hj).mp ?_)
    rw [ej]
    exact s0
end Pb
set_option linter.all false
namespace Pb
section
variable {m : Int} {row : List Int} {rs rs' : List Road}
end
end Pb
set_option Elab.async false
set_option linter.all false
set_option maxRecDepth 100000
namespace L2
open PySem PySem.Spec PyProof.Rows
def Quiet (CX : CXT) : Prop := ∀ outer H s e s', ¬ CX outer H s E0 e s'
theorem passQ {CX : CXT} (q : Quiet CX) {X : Cx} : Passes CX X E0 := fun _ _ _ _ _ _ _ h => (q _ _ _ _ _ h).elim
structure Df (K : PySem.W.Frag) (mg : Str → Option Value) (x : Str) (st : Stmt) (ps : List Str) (f : Addr) (fd : FuncData) : Prop where
  F : Fun K x x st f fd
  m : mg x = some (.ref f)
  b : Binds K fd ps []
section
variable {P : Program} {w : World} {K : PySem.W.Frag} {mg : Str → Option Value} {base : Heap} {CX : CXT}
theorem Fun.okC {x qual : Str} {st : Stmt} {f : Addr} {fd : FuncData} {N ps : List Str} {k : Nat} {sp : Sp} (F : Fun K x qual st f fd) (S : FnScope N ps (defScope st)) (len : ∀ vs H Q E, sp vs H Q E → vs.length = ps.length)
    (hbody : ∀ (cdv : Value) (A : Around) (outer : List Env) (s : Shared) (H : Hp) (vs : List V) (Q : VK) (E : XK), Room k (A.deeper (envOfC qual (defScope st) s.heap.objs.size f cdv)) → sp vs H Q E →
      ∃ t, PSs (cxOf CX P w K mg base N qual (defScope st) f cdv A outer s H E).nox (defBody st) t ∧ t { nx := fun _ H' => Q .non H', rt := Q } (start N vs) H) : FnOk P w K mg base CX (k + 1) f fd ps sp := by
  obtain ⟨oc, od, kV, doc, pm, an, cdv, ct, osl, rfl, lk, hcd⟩ := F.ex
  refine fn_of lk hcd S len fun A outer s H vs Q E hr hsp => ?_
  obtain ⟨t, h, q⟩ := hbody cdv A outer s H vs Q E hr hsp
  exact ⟨t, h.nox, q⟩
end
structure NmL (sc : Scope) (x : Str) : Prop where
  l : sc.names.lookup x = some .local
  d : (x == ("__debug__" : Str)) = false
  c : (x == ("__classdict__" : Str)) = false
structure NmC (sc : Scope) (x : Str) : Prop where
  l : sc.names.lookup x = some .cell
  d : (x == ("__debug__" : Str)) = false
  c : (x == ("__classdict__" : Str)) = false
structure NmG (sc : Scope) (x : Str) : Prop where
  g : sc.names.lookup x = some .globalImplicit
  d : (x == ("__debug__" : Str)) = false
  n : x ≠ "__name__"
theorem us1 {us : List Value} (h : us.length = 1) : ∃ a0, us = [a0] := List.length_eq_one_iff.mp h
theorem us2 {us : List Value} (h : us.length = 2) : ∃ a0 a1, us = [a0, a1] := by
  cases us with
  | nil => cases h
  | cons a0 t =>
    obtain ⟨a1, e⟩ := us1 (Nat.succ.inj h)
    subst e
    exact ⟨a0, a1, rfl⟩
theorem us3 {us : List Value} (h : us.length = 3) : ∃ a0 a1 a2, us = [a0, a1, a2] := by
  cases us with
  | nil => cases h
  | cons a0 t =>
    obtain ⟨a1, a2, e⟩ := us2 (Nat.succ.inj h)
    subst e
    exact ⟨a0, a1, a2, rfl⟩
theorem us4 {us : List Value} (h : us.length = 4) : ∃ a0 a1 a2 a3, us = [a0, a1, a2, a3] := by
  cases us with
  | nil => cases h
  | cons a0 t =>
    obtain ⟨a1, a2, a3, e⟩ := us3 (Nat.succ.inj h)
    subst e
    exact ⟨a0, a1, a2, a3, rfl⟩
def nmL (sc : Scope) (x : Str) : Bool := decide (sc.names.lookup x = some .local) && !(x == ("__debug__" : Str)) && !(x == ("__classdict__" : Str))
def nmC (sc : Scope) (x : Str) : Bool := decide (sc.names.lookup x = some .cell) && !(x == ("__debug__" : Str)) && !(x == ("__classdict__" : Str))
def nmG (sc : Scope) (x : Str) : Bool := decide (sc.names.lookup x = some .globalImplicit) && !(x == ("__debug__" : Str)) && !decide (x = "__name__")
theorem NmL.of {sc : Scope} {x : Str} (h : nmL sc x = true) : NmL sc x := by
  unfold nmL at h
  simp only [Bool.and_eq_true, decide_eq_true_eq, Bool.not_eq_true'] at h
  exact ⟨h.1.1, h.1.2, h.2⟩
theorem NmC.of {sc : Scope} {x : Str} (h : nmC sc x = true) : NmC sc x := by
  unfold nmC at h
  simp only [Bool.and_eq_true, decide_eq_true_eq, Bool.not_eq_true'] at h
  exact ⟨h.1.1, h.1.2, h.2⟩
theorem NmG.of {sc : Scope} {x : Str} (h : nmG sc x = true) : NmG sc x := by
  unfold nmG at h
  simp only [Bool.and_eq_true, decide_eq_true_eq, Bool.not_eq_true', decide_eq_false_iff_not] at h
  exact ⟨h.1.1, h.1.2, h.2⟩
def scOk (N ps : List Str) (sc : Scope) : Bool := decide (sc.kind = .function) && !sc.isCoroutine && !sc.isGenerator && decide N.Nodup && decide (N.take ps.length = ps) && (ps.all fun x => decide (sc.names.lookup x = some .local ∨ sc.names.lookup x = some .cell)) && (sc.names.all fun y => decide (y.2 ≠ .free))
theorem FnScope.of {N ps : List Str} {sc : Scope} (h : scOk N ps sc = true) : FnScope N ps sc := by
  unfold scOk at h
  simp only [Bool.and_eq_true, decide_eq_true_eq, Bool.not_eq_true', List.all_eq_true] at h
  obtain ⟨⟨⟨⟨⟨⟨h1, h2⟩, h3⟩, h4⟩, h5⟩, h6⟩, h7⟩ := h
  exact ⟨h1, h2, h3, h4, h5, h6, h7⟩
theorem pvl {X : Cx} (i : Nat) {x : Str} {pos : Pos} (n : NmL X.env.scope x) (hN : X.N[i]? = some x := by rfl) : PE X (.Name x pos) (tVar i) := pe_var hN (.inl n.l) n.d n.c
theorem pvc {X : Cx} (i : Nat) {x : Str} {pos : Pos} (n : NmC X.env.scope x) (hN : X.N[i]? = some x := by rfl) : PE X (.Name x pos) (tVar i) := pe_var hN (.inr (.inl n.l)) n.d n.c
theorem cxOf_K {CX : CXT} {P : Program} {w : World} {K : PySem.W.Frag} {mg : Str → Option Value} {base : Heap} {N : List Str} {qual : Str} {scope : Scope} {f : Addr} {cd : Value} {A : Around} {outer : List Env} {s : Shared} {H : Hp} {E : XK} :
    (cxOf CX P w K mg base N qual scope f cd A outer s H E).K = K := rfl
theorem tNever_eq (D : Ends) (σ : St) (H : Hp) : tNever D σ H = False := rfl
theorem scal_ii (i j : Int) : scal (.int i) (.int j) = true := rfl
theorem scal_bb (i j : Bool) : scal (.bl i) (.bl j) = true := rfl
theorem scal_in (i : Int) : scal (.int i) .non = true := rfl
theorem scal_ni (i : Int) : scal .non (.int i) = true := rfl
theorem scal_nn : scal .non .non = true := rfl
theorem scal_ss (i j : Str) : scal (.str i) (.str j) = true := rfl
theorem ixT {K : PySem.W.Frag} {H : Hp} {p : Addr} {xs : List V} {i : Int} {v : V} {Q : VK} (h : H p = some (.tup xs)) (e : atI xs i = some v) (q : Q v H) : rIxT K (.ref p) (.int i) H Q := ⟨p, xs, i, v, rfl, rfl, SqT.of h, e, q⟩
theorem ixL {K : PySem.W.Frag} {H : Hp} {p : Addr} {xs : List V} {i : Int} {v : V} {Q : VK} (h : H p = some (.lst xs)) (e : atI xs i = some v) (q : Q v H) : rIxL K (.ref p) (.int i) H Q := ⟨p, xs, i, v, rfl, rfl, SqL.of h, e, q⟩
theorem ixS {K : PySem.W.Frag} {H : Hp} {p : Addr} {xs : List V} {i : Int} {v : V} {Q : VK} (h : SqL K H p xs) (e : atI xs i = some v) (q : Q v H) : rIxL K (.ref p) (.int i) H Q := ⟨p, xs, i, v, rfl, rfl, h, e, q⟩
theorem tyL {K : PySem.W.Frag} {H : Hp} {l : Addr} {xs : List V} (h : H l = some (.lst xs)) : tyV K "list" (.ref l) H := .inl ⟨rfl, _, SqL.of h⟩
theorem appR {H : Hp} {l : Addr} {xs : List V} {y : V} {Q : VK} (h : H l = some (.lst xs)) (hz : xs.length < sizeLine) (q : Q .non (upd H l (.lst (xs ++ [y])))) : rAppend (.ref l) [y] H Q := ⟨l, xs, y, rfl, rfl, h, hz, q⟩
theorem insR {H : Hp} {l : Addr} {xs : List V} {i : Int} {y : V} {Q : VK} (h : H l = some (.lst xs)) (h0 : 0 ≤ i) (h1 : i ≤ xs.length) (hz : xs.length < sizeLine) (q : Q .non (upd H l (.lst (xs.take i.toNat ++ y :: xs.drop i.toNat)))) : rInsert (.ref l) [.int i, y] H Q :=
  ⟨l, xs, i, y, rfl, rfl, h, h0, h1, hz, q⟩
theorem popR {H : Hp} {l : Addr} {xs : List V} {y : V} {Q : VK} (h : H l = some (.lst (xs ++ [y]))) (q : Q y (upd H l (.lst xs))) : rPop (.ref l) [] H Q :=
  ⟨l, xs ++ [y], y, rfl, rfl, h, by simp, by rw [List.dropLast_concat]; exact q⟩
theorem small {n : Nat} (h : n ≤ 100000) : n < sizeLine := Nat.lt_of_le_of_lt h (by decide)
theorem smallE {n : Nat} (h : n ≤ 100000) : n ≤ sizeLine := Nat.le_of_lt (small h)
theorem atI_int {α : Type} {xs : List α} {i : Int} {v : α} (h0 : 0 ≤ i) (h : xs[i.toNat]? = some v) : atI xs i = some v := by
  obtain ⟨n, rfl⟩ : ∃ n : Nat, i = n := ⟨i.toNat, by omega⟩
  exact atI_nat (by simpa using h)
theorem pe_globI {X : Cx} {x : Str} {i : Int} {pos : Pos} (hg : Gl X x) (hm : ∃ t, X.mg x = some (.int i t)) (hd : (x == ("__debug__" : Str)) = false := by decide) : PE X (.Name x pos) (tC (.int i)) := by
  obtain ⟨t, e⟩ := hm
  exact pe_glob hg e ⟨t, rfl⟩ hd
def Itx (K : PySem.W.Frag) : Bool → Addr → It
  | true, a => Itl K a
  | false, a => Itt K a
def iAny (K : PySem.W.Frag) (c : Bool) (tl : TE) : TI := fun σ H R => tl σ H fun x H1 => ∃ a, x = .ref a ∧ (∃ xs, SqX K c H1 a xs) ∧ R (Itx K c a) H1
theorem pi_any {X : Cx} {tg l : Expr} {tl : TE} (c : Bool) (hl : PE X l tl) : PI X tg l (iAny X.K c tl) := by
  cases c
  · exact pi_tup hl
  · exact pi_list hl
def CompGo (J : It) (p : Addr) (Q : VK) (g : TG) (tc : TT) (te : TE) (σ0 : St) (H0 : Hp) : Prop :=
  ∃ W : Nat → Nat → List V → St → Hp → Prop, (∃ m, W 0 m [] σ0 H0) ∧ ∀ i m ys σc Hc, W i m ys σc Hc →
    (J.stop i Hc ∧ Q (.ref p) Hc) ∨ (J.go i Hc ∧ ∀ x H', J.yld i Hc x H' → g x σc H' fun σ2 H2 => tc σ2 H2 fun b H3 =>
      if b = true then te σ2 H3 fun y H4 => H4 p = some (.lst ys) ∧ ys.length < sizeLine ∧ ∃ m', m' < m ∧ W (i + 1) m' (ys ++ [y]) σ2 (upd H4 p (.lst (ys ++ [y])))
      else ∃ m', m' < m ∧ W (i + 1) m' ys σ2 H3)
theorem tComp_eq' {own : Nat} {js : List Nat} {wi : TI} {g : TG} {tc : TT} {te : TE} {σ : St} {H : Hp} {Q : VK} : tComp own js wi g tc te σ H Q = wi σ H fun J H1 => ∀ p, H1 p = none → CompGo J p Q g tc te (compStart0 own js σ) (upd H1 p (.lst [])) := rfl
def ForGo (J : It) (D : Ends) (g : TG) (tb : TS) (σ : St) (H : Hp) : Prop := ∃ W : Nat → Nat → St → Hp → Prop, (∃ m, W 0 m σ H) ∧ ∀ i m σ H, W i m σ H →
  (J.stop i H ∧ D.nx σ H) ∨ (J.go i H ∧ ∃ N : St → Hp → Prop, (∀ σ' H', N σ' H' → ∃ m', m' < m ∧ W (i + 1) m' σ' H') ∧ ∀ x H', J.yld i H x H' → g x σ H' fun σ2 H2 => tb { D with nx := N, ct := N, bk := D.nx } σ2 H2)
theorem tFor_eq {wi : TI} {g : TG} {tb : TS} {D : Ends} {σ : St} {H : Hp} : tFor wi g tb D σ H = wi σ H fun J H1 => ForGo J D g tb σ H1 := rfl
theorem comp_any {K : PySem.W.Frag} {c : Bool} {a p : Addr} {xs : List V} {Q : VK} {g : TG} {tc : TT} {te : TE} {σ0 : St} {H0 : Hp} (Pv : Nat → List V → St → Hp → Prop) (h0 : Pv 0 [] σ0 H0) (hl : ∀ i ys σ H, i ≤ xs.length → Pv i ys σ H → SqX K c H a xs)
    (hs : ∀ (i : Nat) (x : V) (ys : List V) (σ : St) (H : Hp) (N : List V → St → Hp → Prop), (∀ ys' σ' H', Pv (i + 1) ys' σ' H' → N ys' σ' H') → xs[i]? = some x → Pv i ys σ H → g x σ H fun σ2 H2 => tc σ2 H2 fun b H3 =>
      if b = true then te σ2 H3 fun y H4 => H4 p = some (.lst ys) ∧ ys.length < sizeLine ∧ N (ys ++ [y]) σ2 (upd H4 p (.lst (ys ++ [y]))) else N ys σ2 H3)
    (hd : ∀ ys σ H, Pv xs.length ys σ H → Q (.ref p) H) : CompGo (Itx K c a) p Q g tc te σ0 H0 := by
  refine ⟨fun i m ys σ H => m = xs.length - i ∧ i ≤ xs.length ∧ Pv i ys σ H, ⟨xs.length, by simp, Nat.zero_le _, h0⟩, ?_⟩
  rintro i m ys σ H ⟨rfl, hi, pv⟩
  have q := hl i ys σ H hi pv
  by_cases hlt : i < xs.length
  · refine .inr ⟨?_, fun x H' y => ?_⟩
    · cases c
      · exact ⟨xs, xs[i], q, by simp [hlt]⟩
      · exact ⟨xs, xs[i], q, by simp [hlt]⟩
    · have e : H' = H ∧ xs[i]? = some x := by
        cases c
        · exact ⟨y.1, y.2 xs q⟩
        · exact ⟨y.1, y.2 xs q⟩
      obtain ⟨rfl, hx⟩ := e
      exact hs i x ys σ _ (fun ys' σ' H' => ∃ m', m' < xs.length - i ∧ (m' = xs.length - (i + 1) ∧ i + 1 ≤ xs.length ∧ Pv (i + 1) ys' σ' H')) (fun ys' σ' H' pv' => ⟨xs.length - (i + 1), by omega, rfl, hlt, pv'⟩) hx pv
  · have e : i = xs.length := by omega
    subst e
    refine .inl ⟨?_, hd ys σ H pv⟩
    cases c
    · exact ⟨xs, q, Nat.le_refl _⟩
    · exact ⟨xs, q, Nat.le_refl _⟩
theorem comp_range {lo : Int} {n : Nat} {p : Addr} {Q : VK} {g : TG} {tc : TT} {te : TE} {σ0 : St} {H0 : Hp} (Pv : Nat → List V → St → Hp → Prop) (h0 : Pv 0 [] σ0 H0)
    (hs : ∀ (i : Nat) (ys : List V) (σ : St) (H : Hp) (N : List V → St → Hp → Prop), (∀ ys' σ' H', Pv (i + 1) ys' σ' H' → N ys' σ' H') → i < n → Pv i ys σ H → g (.int (lo + i)) σ H fun σ2 H2 => tc σ2 H2 fun b H3 =>
      if b = true then te σ2 H3 fun y H4 => H4 p = some (.lst ys) ∧ ys.length < sizeLine ∧ N (ys ++ [y]) σ2 (upd H4 p (.lst (ys ++ [y]))) else N ys σ2 H3)
    (hd : ∀ ys σ H, Pv n ys σ H → Q (.ref p) H) : CompGo (Itr lo n) p Q g tc te σ0 H0 := by
  refine ⟨fun i m ys σ H => m = n - i ∧ i ≤ n ∧ Pv i ys σ H, ⟨n, by simp, Nat.zero_le _, h0⟩, ?_⟩
  rintro i m ys σ H ⟨rfl, hi, pv⟩
  by_cases hlt : i < n
  · refine .inr ⟨hlt, fun x H' y => ?_⟩
    obtain ⟨rfl, rfl⟩ := y
    exact hs i ys σ _ (fun ys' σ' H' => ∃ m', m' < n - i ∧ (m' = n - (i + 1) ∧ i + 1 ≤ n ∧ Pv (i + 1) ys' σ' H')) (fun ys' σ' H' pv' => ⟨n - (i + 1), by omega, rfl, hlt, pv'⟩) hlt pv
  · have e : i = n := by omega
    subst e
    exact .inl ⟨Nat.le_refl _, hd ys σ H pv⟩
theorem pb_len : bootBuiltins "len" = some (.builtin "len") := by decide +kernel
theorem pb_isinstance : bootBuiltins "isinstance" = some (.builtin "isinstance") := by decide +kernel
theorem pb_all : bootBuiltins "all" = some (.builtin "all") := by decide +kernel
theorem pb_int : bootBuiltins "int" = some (.type "int") := by decide +kernel
theorem pb_list : bootBuiltins "list" = some (.type "list") := by decide +kernel
theorem pb_tuple : bootBuiltins "tuple" = some (.type "tuple") := by decide +kernel
theorem pb_bool : bootBuiltins "bool" = some (.type "bool") := by decide +kernel
section
variable {X : Cx} {a b o e : Expr} {es : List Expr} {ta tb to : TE} {t : TA} {pos apos cpos : Pos} {f name : Str} {T id : String} {r : V → List V → Hp → VK → Prop}
theorem call_tuple_ofK (K : PySem.W.Frag) (h : X.K = K) : CallR X (.type "tuple") (fun xs H Q => ∃ p ys, xs = [.ref p] ∧ ((SqL K H p ys ∧ ∀ l, H l = none → Q (.ref l) (upd H l (.tup ys))) ∨ (SqT K H p ys ∧ Q (.ref p) H))) := by subst h; exact call_tuple_of
end
theorem lookup_mem {x : Str} {k : NameKind} : ∀ {l : List (Str × NameKind)}, l.lookup x = some k → ∃ y, (y, k) ∈ l
  | [], h => by simp at h
  | (n, j) :: r, h => by
    rw [List.lookup_cons] at h
    cases q : x == n with
    | true =>
      rw [q] at h
      cases h
      exact ⟨n, List.mem_cons_self⟩
    | false =>
      rw [q] at h
      obtain ⟨y, hy⟩ := lookup_mem h
      exact ⟨y, List.mem_cons_of_mem _ hy⟩
theorem ct_plain {X : Cx} {Nc : List Str} {scope : Scope} (own : Nat) (hf : ∀ y ∈ scope.names, y.2 ≠ .free) (hc : ∀ y ∈ scope.names, y.2 ≠ .cell) (hk : scope.kind = .function) (hn : ∀ y ∈ scope.names, y.2 = .local → scope.names.lookup y.1 = some .local)
    (hl : Nc.length = own) : CompTxt X Nc own [] scope [] where
  clos := closureFor_none hf
  kind := hk
  nocell := hc
  names := hn
  cells := fun x c h => by cases h
  has := fun x h => by
    have key : ∀ k, (relabel scope X.env).names.lookup x = some k → k ≠ .cell ∧ k ≠ .free := fun k e => by
      obtain ⟨y, hy⟩ := lookup_mem e
      obtain ⟨⟨n, k0⟩, hm, e2⟩ := List.mem_map.mp hy
      have h1 := hf _ hm
      have h2 := hc _ hm
      have e3 : (k0 == NameKind.free) = false := by simpa using h1
      simp only [e3, Bool.false_and, Bool.false_eq_true, if_false] at e2
      cases e2
      exact ⟨h2, h1⟩
    rcases h with h | h
    · exact absurd rfl (key _ h).1
    · exact absurd rfl (key _ h).2
  len := by simpa using hl
  outer := fun i x h => by
    rw [List.getElem?_eq_none (by omega)] at h
    cases h
theorem for_listN {K : PySem.W.Frag} {a : Addr} {xs : List V} {g : TG} {tb : TS} {D : Ends} {σ : St} {H : Hp} (Pv : Nat → St → Hp → Prop) (h0 : Pv 0 σ H) (hl : ∀ i σ H, i ≤ xs.length → Pv i σ H → SqL K H a xs)
    (hs : ∀ (i : Nat) (x : V) (σ : St) (H : Hp) (N : St → Hp → Prop), (∀ σ' H', Pv (i + 1) σ' H' → N σ' H') → xs[i]? = some x → Pv i σ H → g x σ H fun σ2 H2 => tb { D with nx := N, ct := N, bk := D.nx } σ2 H2) (hd : ∀ σ H, Pv xs.length σ H → D.nx σ H) :
    ForGo (Itl K a) D g tb σ H := for_list Pv h0 hl (fun i x σ H hx p => hs i x σ H (Pv (i + 1)) (fun _ _ z => z) hx p) hd
theorem for_tupN {K : PySem.W.Frag} {a : Addr} {xs : List V} {g : TG} {tb : TS} {D : Ends} {σ : St} {H : Hp} (Pv : Nat → St → Hp → Prop) (h0 : Pv 0 σ H) (hl : ∀ i σ H, i ≤ xs.length → Pv i σ H → SqT K H a xs)
    (hs : ∀ (i : Nat) (x : V) (σ : St) (H : Hp) (N : St → Hp → Prop), (∀ σ' H', Pv (i + 1) σ' H' → N σ' H') → xs[i]? = some x → Pv i σ H → g x σ H fun σ2 H2 => tb { D with nx := N, ct := N, bk := D.nx } σ2 H2) (hd : ∀ σ H, Pv xs.length σ H → D.nx σ H) :
    ForGo (Itt K a) D g tb σ H := for_tup Pv h0 hl (fun i x σ H hx p => hs i x σ H (Pv (i + 1)) (fun _ _ z => z) hx p) hd
theorem for_rangeN {lo : Int} {n : Nat} {g : TG} {tb : TS} {D : Ends} {σ : St} {H : Hp} (Pv : Nat → St → Hp → Prop) (h0 : Pv 0 σ H)
    (hs : ∀ (i : Nat) (σ : St) (H : Hp) (N : St → Hp → Prop), (∀ σ' H', Pv (i + 1) σ' H' → N σ' H') → i < n → Pv i σ H → g (.int (lo + i)) σ H fun σ2 H2 => tb { D with nx := N, ct := N, bk := D.nx } σ2 H2) (hd : ∀ σ H, Pv n σ H → D.nx σ H) :
    ForGo (Itr lo n) D g tb σ H := for_range Pv h0 (fun i σ H hi p => hs i σ H (Pv (i + 1)) (fun _ _ z => z) hi p) hd
theorem while_n {c : TT} {tb : TS} {D : Ends} {σ : St} {H : Hp} (W : Nat → St → Hp → Prop) (n0 : Nat) (h0 : W n0 σ H)
    (hs : ∀ (n : Nat) (σ : St) (H : Hp) (N : St → Hp → Prop), (∀ n' σ' H', n' < n → W n' σ' H' → N σ' H') → (∀ σ' H', N σ' H' → ∃ m', m' < n ∧ W m' σ' H') → W n σ H →
      c σ H fun b H1 => if b = true then ∃ N : St → Hp → Prop, (∀ σ' H', N σ' H' → ∃ m', m' < n ∧ W m' σ' H') ∧ tb { D with nx := N, ct := N, bk := D.nx } σ H1 else D.nx σ H1) : tWhile c tb D σ H :=
  ⟨W, ⟨n0, h0⟩, fun n σ H w => hs n σ H (fun σ' H' => ∃ m', m' < n ∧ W m' σ' H') (fun n' _ _ hn w' => ⟨n', hn, w'⟩) (fun _ _ z => z) w⟩
open Pb
def vRoad (r : Road) : List V := [.int r.a, .int r.b, .int r.t, .int r.u]
abbrev RoadsAt (H : Hp) : List Addr → List Road → Prop := Paired fun p r => H p = some (.tup (vRoad r))
theorem RoadsAt.same {H H' : Hp} (e : Same H H') {ps : List Addr} {rs : List Road} (h : RoadsAt H ps rs) : RoadsAt H' ps rs := Paired.imp' (fun p r q => e p _ q) h
theorem RoadsAt.get {H : Hp} : ∀ {ps : List Addr} {rs : List Road} {i : Nat} {x : V}, RoadsAt H ps rs → (ps.map V.ref)[i]? = some x → ∃ p r, x = .ref p ∧ ps[i]? = some p ∧ rs[i]? = some r ∧ H p = some (.tup (vRoad r))
  | _, _, i, x, .nil, e => by simp at e
  | _, _, 0, x, .cons (a := p) (b := r) h hs, e => ⟨p, r, by simpa using e.symm, by simp, by simp, h⟩
  | a :: l1, _, i + 1, x, .cons h hs, e => by
    have e' : (List.map V.ref l1)[i]? = some x := by simpa using e
    obtain ⟨p, r, h1, h2, h3, h4⟩ := RoadsAt.get hs e'
    exact ⟨p, r, h1, by simpa using h2, by simpa using h3, h4⟩
theorem Same.tup {K : PySem.W.Frag} {H H' : Hp} {a : Addr} {xs : List V} (e : Same H H') (h : SqT K H a xs) : SqT K H' a xs := by
  rcases h with (h | ⟨o, h⟩) | h
  · exact .inl (.inl (e _ _ h))
  · exact .inl (.inr ⟨o, e _ _ h⟩)
  · exact .inr h
theorem Same.sqX {K : PySem.W.Frag} {H H' : Hp} {c : Bool} {a : Addr} {xs : List V} (e : Same H H') (h : SqX K c H a xs) : SqX K c H' a xs := by
  cases c
  · exact Same.tup e h
  · exact Same.seq e h
theorem Same.new {H : Hp} {p : Addr} (o : HO) (h : H p = none) : Same H (upd H p o) := fun b u e => by rw [upd_ne (ne_of_none e h)]; exact e
end L2
set_option Elab.async false
set_option linter.all false
set_option maxRecDepth 100000
namespace L2
open PySem PySem.Spec PyProof.Rows
section
variable {prog : Program} {w : World} {A : Around} {E : Value → Shared → Prop} {s : Shared} {K : PySem.W.Frag} {x C : Addr} {ox : Obj} {od : Option Obj}
end
end L2
set_option Elab.async false
set_option linter.all false
set_option maxRecDepth 100000
namespace L2
open PySem PySem.Spec PyProof.Rows
section
variable {M : Model} {A : Around} {E : Value → Shared → Prop} {s : Shared} {Q : Unit → Shared → Prop} {fs : List Addr} {ea T L : Addr} {cls fl hd : Value} {od : Option Addr} {base : Heap} {env : Env} {outer : List Env}
end
section
variable {P : Program} {w : World} {K : PySem.W.Frag} {mg : Str → Option Value} {base : Heap} {N : List Str} {qual : Str} {scope : Scope} {f : Addr} {cd : Value} {A : Around} {outer : List Env} {s : Shared} {H : Hp} {E : XK}
end
section
variable {P : Program} {w : World} {K : PySem.W.Frag} {mg : Str → Option Value} {base : Heap} {N : List Str} {qual : Str} {scope : Scope} {f : Addr} {cd : Value} {A : Around} {outer : List Env} {s : Shared} {H : Hp} {E : XK}
end
end L2
set_option Elab.async false
set_option linter.all false
set_option maxRecDepth 100000
namespace L2
open PySem PySem.Spec PyProof.Rows
def tRaise (C : Addr) (E : XK) (t : TA) : TS := fun _ σ H => t σ H fun vs H1 => vs.length ≤ sizeLine ∧ E (.ref C) none H1
section
variable {X : Cx} {x : Str} {np cpos pos : Pos} {e0 : Expr} {es : List Expr} {t : TA} {C : Addr} {E : XK}
end
section
variable {CX : CXT} {X : Cx} {k : Nat} {f C : Addr} {fd : FuncData} {ps : List Str} {sp : Sp} {dvs : List V} {ds : List Value} {x : Str} {p pos : Pos} {e : Expr} {es : List Expr} {te : TE} {t : TA} {st : Stmt} {sts : List Stmt} {ts : TS} {tx ux : (St → XK) → TS} {ex : XK → TE}
end
end L2
set_option Elab.async false
set_option linter.all false
set_option maxRecDepth 100000
namespace L2
open PySem PySem.Spec PyProof.Rows
section
variable {X : Cx} {pins : List (Addr × Obj)} {σ : St} {H : Hp} {s : Shared}
end
section
variable {K : PySem.W.Frag} {C C' : Addr} {x : Addr} {ox : Obj} {od : Option Obj} {M : Model} {A : Around} {E : Value → Shared → Prop} {s : Shared} {b : Bool} {Q : Bool → Shared → Prop}
end
end L2
set_option Elab.async false
set_option linter.all false
set_option maxRecDepth 100000
namespace L2
open PySem PySem.Spec PyProof.Rows
def ExO (ea : Addr) (cls : Value) (od : Option Addr) : HO := .ext fun h => ∃ oe vs, h.get? ea = some oe ∧ oe.cls = cls ∧ oe.dict = od ∧ oe.data = .fields vs
section
variable {X : Cx} {pins : List (Addr × Obj)} {σ : St} {H : Hp} {s : Shared}
end
abbrev TH := Ends → St → Value → Option Addr → Hp → Prop
def Ends.less (D : Ends) (i : Nat) : Ends := { nx := fun σ H => D.nx (σ.set i none) H, rt := D.rt, bk := fun σ H => D.bk (σ.set i none) H, ct := fun σ H => D.ct (σ.set i none) H }
def tHand (K : PySem.W.Frag) (C' : Addr) (i : Nat) (ts : TS) (tr : TH) : TH := fun D σ cls od H => ∃ C b, cls = .ref C ∧ PySem.W.mroIn K C (.ref C') = some b ∧
  if b = true then ∀ ea, H ea = none → ts (D.less i) (σ.set i (some (.ref ea))) (upd H ea (ExO ea cls od)) else tr D σ cls od H
section
variable {X : Cx} {x n : Str} {np pos : Pos} {i : Nat} {C' : Addr} {b0 : Stmt} {suite : List Stmt} {rest : List ExceptHandler} {ts : TS} {tr : TH}
def tTry (tb : (St → XK) → TS) (th : TH) : TS := fun D σ H => tb (fun σ' cls od H' => th D σ' cls od H') D σ H
end
end L2
set_option Elab.async false
set_option linter.all false
set_option maxRecDepth 100000
namespace L2
open PySem PySem.Spec PyProof.Rows
section
variable {P : Program} {w : World} {K : PySem.W.Frag} {mg : Str → Option Value} {base : Heap}
end
section
variable {X : Cx} {k : Nat} {f : Addr} {fd : FuncData} {ps : List Str} {sp : Sp} {x : Str} {p pos : Pos} {e : Expr} {es : List Expr} {t : TA}
end
section
variable {X : Cx}
end
def clOf (cells : List (Str × Addr)) : List (Str × NameKind) → List (Str × Addr) → List (Str × Addr)
  | [], acc => acc
  | (n, k) :: r, acc => if k == .free then clOf cells r ((n, (cells.lookup n).getD 0) :: acc) else clOf cells r acc
theorem closure_of {scope : Scope} {env : Env} (h : ∀ y ∈ scope.names, y.2 = .free → (env.cells.lookup y.1).isSome = true) : closureFor scope env = pure (clOf env.cells scope.names []) := by
  have key : ∀ (l : List (Str × NameKind)) (acc : List (Str × Addr)), (∀ y ∈ l, y.2 = .free → (env.cells.lookup y.1).isSome = true) →
      (forIn l acc fun (y : Str × NameKind) (c : List (Str × Addr)) => (if y.2 == NameKind.free then do let a ← cellOf env y.1; pure (ForInStep.yield ((y.1, a) :: c)) else pure (ForInStep.yield c) : Sem (ForInStep (List (Str × Addr))))) = (pure (clOf env.cells l acc) : Sem (List (Str × Addr))) := by
    intro l
    induction l with
    | nil => intro acc _; rfl
    | cons y l ih =>
      obtain ⟨n, k⟩ := y
      intro acc hh
      have h1 := hh (n, k) List.mem_cons_self
      have h2 : ∀ y ∈ l, y.2 = .free → (env.cells.lookup y.1).isSome = true := fun y hy => hh y (List.mem_cons_of_mem _ hy)
      rw [List.forIn_cons]
      unfold clOf
      cases q : k == NameKind.free with
      | false =>
        simp only [Bool.false_eq_true, if_false, pure_bind]
        exact ih acc h2
      | true =>
        obtain ⟨c, hc⟩ := Option.isSome_iff_exists.mp (h1 (by simpa using q))
        dsimp only at hc
        simp only [if_true, cellOf, hc, pure_bind, Option.getD_some]
        exact ih _ h2
  have := key scope.names [] h
  unfold closureFor
  simp only [bind_pure]
  exact this
theorem clOf_sub {cells : List (Str × Addr)} {x : Str} {c : Addr} : ∀ {l : List (Str × NameKind)} {acc : List (Str × Addr)}, (∀ y ∈ l, y.2 = .free → (cells.lookup y.1).isSome = true) → (∀ x c, acc.lookup x = some c → cells.lookup x = some c) → (clOf cells l acc).lookup x = some c → cells.lookup x = some c
  | [], acc, _, h2, h3 => h2 x c h3
  | (n, k) :: r, acc, h1, h2, h3 => by
    have h1' : ∀ y ∈ r, y.2 = .free → (cells.lookup y.1).isSome = true := fun y hy => h1 y (List.mem_cons_of_mem _ hy)
    unfold clOf at h3
    cases q : k == NameKind.free with
    | false =>
      rw [q] at h3
      exact clOf_sub h1' h2 (by simpa using h3)
    | true =>
      rw [q] at h3
      simp only [if_true] at h3
      obtain ⟨a, ha⟩ := Option.isSome_iff_exists.mp (h1 (n, k) List.mem_cons_self (by simpa using q))
      dsimp only at ha
      rw [ha] at h3
      refine clOf_sub h1' (fun y d hy => ?_) h3
      rw [List.lookup_cons] at hy
      cases z : y == n with
      | true =>
        rw [z] at hy
        cases hy
        rw [eq_of_beq z]
        exact ha
      | false =>
        rw [z] at hy
        exact h2 y d hy
theorem clOf_has {cells : List (Str × Addr)} {x : Str} : ∀ {l : List (Str × NameKind)} {acc : List (Str × Addr)}, ((∃ c, acc.lookup x = some c) ∨ (x, NameKind.free) ∈ l) → ∃ c, (clOf cells l acc).lookup x = some c
  | [], acc, h => by
    rcases h with h | h
    · exact h
    · cases h
  | (n, k) :: r, acc, h => by
    unfold clOf
    cases q : k == NameKind.free with
    | false =>
      simp only [Bool.false_eq_true, if_false]
      refine clOf_has ?_
      rcases h with h | h
      · exact .inl h
      · rcases List.mem_cons.mp h with z | z
        · cases z
          simp at q
        · exact .inr z
    | true =>
      simp only [if_true]
      refine clOf_has ?_
      by_cases z : x = n
      · subst z
        exact .inl ⟨(cells.lookup x).getD 0, by rw [List.lookup_cons]; simp⟩
      · rcases h with ⟨c, h⟩ | h
        · refine .inl ⟨c, ?_⟩
          rw [List.lookup_cons]
          have : (x == n) = false := by simpa using z
          rw [this]
          exact h
        · rcases List.mem_cons.mp h with y | y
          · cases y
            exact absurd rfl z
          · exact .inr y
theorem relabel_lookup {env : Env} {x : Str} {k : NameKind} : ∀ {l : List (Str × NameKind)}, l.lookup x = some k →
    (l.map fun (n, k) => if (k == NameKind.free && env.scope.kind == .function && env.kindOf n == some .cell) then (n, NameKind.cell) else (n, k)).lookup x = some (if (k == NameKind.free && env.scope.kind == .function && env.kindOf x == some .cell) then NameKind.cell else k)
  | [], h => by simp at h
  | (n, j) :: r, h => by
    have ih := @relabel_lookup env x k r
    rw [List.map_cons]
    rw [List.lookup_cons] at h
    cases z : x == n with
    | true =>
      rw [z] at h
      cases h
      have e := eq_of_beq z
      subst e
      by_cases q : (k == NameKind.free && env.scope.kind == .function && env.kindOf x == some .cell) = true
      · simp only [q, if_true, List.lookup_cons, z]
      · simp only [q, if_false, List.lookup_cons, z, Bool.false_eq_true]
    | false =>
      rw [z] at h
      dsimp only
      by_cases q : (j == NameKind.free && env.scope.kind == .function && env.kindOf n == some .cell) = true
      · rw [if_pos q, List.lookup_cons, z]
        exact ih h
      · rw [if_neg q, List.lookup_cons, z]
        exact ih h
theorem ct_clos {X : Cx} {Nc : List Str} {scope : Scope} (own : Nat) (js : List Nat) (hc : ∀ y ∈ scope.names, y.2 ≠ .cell) (hk : scope.kind = .function) (hn : ∀ y ∈ scope.names, y.2 = .local → scope.names.lookup y.1 = some .local) (hl : Nc.length = own + js.length)
    (hf : ∀ y ∈ scope.names, y.2 = .free → X.env.scope.names.lookup y.1 = some .cell) (hX : X.env.scope.kind = .function) (hcell : ∀ x, X.env.scope.names.lookup x = some .cell → ∃ c, X.env.cells.lookup x = some c)
    (hU : ∀ i, i < js.length → ∃ x j, Nc[own + i]? = some x ∧ js[i]? = some j ∧ X.N[j]? = some x ∧ scope.names.lookup x = some .free) : CompTxt X Nc own js scope (clOf X.env.cells scope.names []) := by
  have hs : ∀ y ∈ scope.names, y.2 = .free → (X.env.cells.lookup y.1).isSome = true := fun y hy e => by
    obtain ⟨c, q⟩ := hcell _ (hf y hy e)
    rw [q]
    rfl
  have free_cell : ∀ x, scope.names.lookup x = some .free → X.env.scope.names.lookup x = some .cell := fun x h => hf (x, .free) (PySem.mem_of_lookup h) rfl
  refine ⟨closure_of hs, hk, hc, hn, fun x c h => clOf_sub hs (fun x c z => by simp at z) h, fun x h => ?_, hl, fun i x h => ?_⟩
  · cases q : scope.names.lookup x with
    | none =>
      exfalso
      have : (relabel scope X.env).names.lookup x = none := by
        unfold relabel
        dsimp only
        revert q
        generalize scope.names = l
        induction l with
        | nil => intro _; rfl
        | cons y l ih =>
          obtain ⟨n, k⟩ := y
          intro q
          rw [List.lookup_cons] at q
          cases z : x == n with
          | true => rw [z] at q; cases q
          | false =>
            rw [z] at q
            rw [List.map_cons]
            dsimp only
            by_cases w : (k == NameKind.free && X.env.scope.kind == .function && X.env.kindOf n == some .cell) = true
            · rw [if_pos w, List.lookup_cons, z]
              exact ih q
            · rw [if_neg w, List.lookup_cons, z]
              exact ih q
      rw [this] at h
      rcases h with h | h <;> cases h
    | some k =>
      have r : (relabel scope X.env).names.lookup x = some _ := relabel_lookup (env := X.env) q
      cases k with
      | free => exact clOf_has (.inr (PySem.mem_of_lookup q))
      | cell => exact absurd rfl (hc _ (PySem.mem_of_lookup q))
      | _ =>
        rw [r] at h
        simp at h
  · have hi : i < js.length := by
      have := (List.getElem?_eq_some_iff.mp h).1
      omega
    obtain ⟨y, j, e1, e2, e3, e4⟩ := hU i hi
    rw [h] at e1
    cases e1
    have fc := free_cell x e4
    refine ⟨j, e2, e3, fc, ?_⟩
    have r : (relabel scope X.env).names.lookup x = some _ := relabel_lookup (env := X.env) e4
    rw [r]
    have : X.env.kindOf x = some .cell := fc
    rw [this, hX]
    rfl
end L2
set_option Elab.async false
set_option linter.all false
set_option maxRecDepth 100000
namespace L2
open PySem PySem.Spec PyProof.Rows
section
variable {X : Cx}
end
section
variable {K : PySem.W.Frag} {T C : Addr} {c0 : Value} {dd : Option Addr} {cd : ClassData} {sl : Array (Option Value)}
end
section
variable {P : Program} {w : World} {K : PySem.W.Frag} {mg : Str → Option Value} {base : Heap}
end
theorem tRaise_eq {C : Addr} {E : XK} {t : TA} {D : Ends} {σ : St} {H : Hp} : tRaise C E t D σ H = t σ H fun vs H1 => vs.length ≤ sizeLine ∧ E (.ref C) none H1 := rfl
theorem tTry_eq {tb : (St → XK) → TS} {th : TH} {D : Ends} {σ : St} {H : Hp} : tTry tb th D σ H = tb (fun σ' cls od H' => th D σ' cls od H') D σ H := rfl
theorem tHand_eq {K : PySem.W.Frag} {C' : Addr} {i : Nat} {ts : TS} {tr : TH} {D : Ends} {σ : St} {cls : Value} {od : Option Addr} {H : Hp} : tHand K C' i ts tr D σ cls od H = ∃ C b, cls = .ref C ∧ PySem.W.mroIn K C (.ref C') = some b ∧
  if b = true then ∀ ea, H ea = none → ts (D.less i) (σ.set i (some (.ref ea))) (upd H ea (ExO ea cls od)) else tr D σ cls od H := rfl
theorem Same.put {H H' : Hp} {l : Addr} (e : Same H H') (n : H l = none) (o : HO) : Same H (upd H' l o) := fun b u h => by rw [upd_ne (ne_of_none h n)]; exact e b u h
end L2
set_option Elab.async false
set_option linter.all false
set_option maxRecDepth 100000
namespace L2
open PySem PySem.Spec PyProof.Rows
theorem asg_name {M : Model} {A : Around} {E : Value → Shared → Prop} {s : Shared} {env : Env} {x : Str} {px : Pos} {v : Value} {Q : Unit → Shared → Prop} (h : wpAny M A (storeName env x v) Q E s) : wpAny M A (assign (.Name x px) env v) Q E s := by
  show wpAny M A (do standAt px; bindName env x v) Q E s
  exact wpAny_bind (wpAny_standAt (wpAny_bindName h))
section
variable {X : Cx} {Nc : List Str} {own : Nat} {js : List Nat} {scope : Scope} {cl : List (Str × Addr)}
theorem ps_setComp {i : Nat} {x : Str} {px pos : Pos} {elt target iter : Expr} {ifs : List Expr} {cpos : Pos} {wi : TI} {g : TG} {tc : TT} {te : TE} (hN : X.N.Nodup) (hxi : X.N[i]? = some x) (hxl : X.env.scope.names.lookup x = some .local) (hc : X.calm = true) (T : CompTxt X Nc own js scope cl)
    (hi : PI X target iter wi) (hg : ∀ C s₂ H₁ fp, PG (X.comp Nc scope cl C s₂ H₁ fp) target g) (ht : ∀ C s₂ H₁ fp, PTs (X.comp Nc scope cl C s₂ H₁ fp) ifs tc)
    (he : ∀ C s₂ H₁ fp, PE (X.comp Nc scope cl C s₂ H₁ fp) elt te) (hs : ∀ x, foldedSetIterable iter X.env x = pure x := by intro _; rfl)
    (hsw : swapsWith (.ListComp elt [⟨target, iter, ifs, 0⟩] scope cpos) (some (.Name x px)) pos.line X.env = pure true := by rfl) :
    PS X (.Assign [.Name x px] (.ListComp elt [⟨target, iter, ifs, 0⟩] scope cpos) pos) (tAsg (tComp own js wi g tc te) (gName i)) := by
  intro pins s σ H D I h
  rw [exec_Assign_Name_used _ _ _ _ hsw]
  refine wpAny_bind (wpAny_standAt (wpAny_bind ?_))
  rw [arm_evalThenUse_ListComp]
  refine wpAny_bind ?_
  refine wpAny_comprehension_free (use := some (assign (.Name x px) X.env)) rfl hs T.clos T.kind T.names (thn (hi pins s σ H _ I h) fun v s1 h1 => thn h1 fun itv s2 h2 => ?_)
  obtain ⟨it, fp, tn, J, H1, rfl, I1, Tn, st, f1, R⟩ := h2
  have hfp : ∀ b ∈ fp, b < s2.heap.objs.size := fun b hb => let ⟨o, e, _⟩ := Tn.obj _ _ st b hb; Heap.lt_size e
  refine wpAny_newObj_type (wpAny_newFunctionEnv T.nocell (by intro y hy; simp at hy) (fun h₁ hns₁ hsb₁ => ?_) T.kind)
  dsimp only at hns₁ hsb₁ ⊢
  generalize hH2 : s2.heap.push { cls := .type "list", dict := none, data := .seq ([] : List Value).toArray } = H2 at hns₁ hsb₁ ⊢
  have hC : H2.objs.size = s2.heap.objs.size + 1 := by rw [← hH2, Heap.size_push]
  have hDC : s2.heap.objs.size ≠ H2.objs.size := by rw [hC]; exact Nat.ne_of_lt (Nat.lt_succ_self _)
  have hCle : s2.heap.objs.size ≤ H2.objs.size := by rw [hC]; exact Nat.le_succ _
  have below : ∀ b, b < s2.heap.objs.size → b ≠ H2.objs.size := fun b hb => by rw [hC]; exact Nat.ne_of_lt (Nat.lt_succ_of_lt hb)
  have old : ∀ b o, s2.heap.get? b = some o → h₁.get? b = some o := fun b o e => hsb₁.extBut b o (below b (Heap.lt_size e)) (Heap.get?_push_of_some _ (hH2 ▸ Heap.get?_push_of_some _ e))
  have hacc : ∃ n, h₁.get? s2.heap.objs.size = some { cls := .type "list", data := .seq ([] : List Value).toArray n } := ⟨_, hsb₁.extBut _ _ hDC (Heap.get?_push_of_some _ (hH2 ▸ Heap.get?_push_size _ rfl))⟩
  have st₁ : tn 0 h₁ := Tn.keep _ _ _ st fun b _ o e => old b o e
  obtain ⟨W, ⟨m0, w0⟩, turn⟩ := R s2.heap.objs.size I1.fresh
  have Ic := comp_inv (t := s2.toks + ([] : List (Str × Value)).length) T I1 hCle (Nat.le_refl _) hDC f1 hfp old hns₁ hacc
  generalize hXc : X.comp Nc scope cl H2.objs.size s2 H1 fp = Xc at Ic
  have stat : ∀ {H' : Hp}, (∀ b ∈ fp, H' b = none) → ∀ b ∈ fp, FpOk Xc [] H' b := fun {H'} hn b hb => by
    subst hXc
    exact ⟨hn b hb, below b (hfp b hb), (comp_ok T I1 hCle f1 hfp).exfs b hb, .inl hb, fun x c e => (f1 b hb).2.2.2.2.1 x c (T.cells x c e), fun p hp => by cases hp⟩
  have fr0 : ∀ b ∈ fp, upd H1 s2.heap.objs.size (.lst []) b = none := fun b hb => by
    rw [upd_ne (Nat.ne_of_lt (hfp b hb))]
    exact (f1 b hb).1
  have calmc : Xc.calm = true := by subst hXc; exact hc
  have loop : ∀ s₃ : Shared, s₃ = { s2 with heap := h₁, toks := s2.toks + ([] : List (Str × Value)).length } →
      codeAny (model X.prog X.w) X.A (.compLoop (.ListComp elt [⟨target, iter, ifs, 0⟩] scope cpos) 0 (.ref it) (.ref s2.heap.objs.size) (compEnvC scope cl H2.objs.size X.env))
        (compPost (model X.prog X.w) X.A X.xe (some (assign (.Name x px) X.env)) (fun _ s' => wpAny (model X.prog X.w) X.A (pure ()) (fun _ s'' => wpAny (model X.prog X.w) X.A (pure Flow.next) (SP X pins D) X.xe s'') X.xe s') (.ref s2.heap.objs.size) H2.objs.size) s₃ := by
    rintro s₃ rfl
    refine compLoop_go (fun n s' => ∃ i ys σ' H', Inv Xc [] σ' H' s' ∧ tn i s'.heap ∧ (∀ b ∈ fp, H' b = none) ∧ W i n ys σ' H') ?_ m0 ⟨0, [], _, _, Ic, st₁, fr0, w0⟩
    rintro n s3 ⟨i, ys, σ3, H3, I3, st3, fr3, w3⟩
    rcases turn i n ys σ3 H3 w3 with ⟨stop, q⟩ | ⟨go, step⟩
    · subst hXc
      refine thn (Tn.done (X.comp Nc scope cl H2.objs.size s2 H1 fp) rfl rfl rfl hc i [] s3 σ3 H3 _ I3 (stat fr3) st3 stop) fun r s4 ⟨hr, I4⟩ => ?_
      subst hr
      obtain ⟨m4, hn4, _⟩ := id I4.loc
      have J := comp_back I1 hCle f1 I4 (h' := s4.heap) (Heap.SameBut.refl _ _)
      have cl0 : H2.objs.size ≠ X.env.locals := Nat.ne_of_gt (Nat.lt_of_lt_of_le I1.lt hCle)
      have cy : X.s₀.heap.objs.size ≤ H2.objs.size := Nat.le_trans I1.sz hCle
      have cc : ∀ y c, X.env.cells.lookup y = some c → c ≠ H2.objs.size := fun y c e => by
        obtain ⟨v', o', ho', _⟩ := I1.cell y c e
        exact Nat.ne_of_lt (Nat.lt_of_lt_of_le (Heap.lt_size ho') hCle)
      have cp : ∀ p ∈ X.pn ++ pins, p.1 ≠ H2.objs.size := fun p hp => by
        obtain ⟨ho', _⟩ := I1.pin p hp
        exact Nat.ne_of_lt (Nat.lt_of_lt_of_le (Heap.lt_size ho') hCle)
      refine asg_name (store_ok2 (v := .ref s2.heap.objs.size) J hN hxi (.inl hxl) rfl (fun s5 I5 ⟨ad, sb, had⟩ => ?_) (.inr hxl))
      have nad : H2.objs.size ≠ ad := by
        rcases had with rfl | had
        · exact cl0
        · exact (cc _ _ had).symm
      obtain ⟨oo, es, ep, e1, e2⟩ := hn4
      refine ⟨m4, ⟨oo, es, ep, (sb.2 _ nad).trans e1, e2⟩, fun h' hs' => wpAny_pure (wpAny_pure ⟨_, H3, ?_, q⟩)⟩
      exact I5.turned (it := H2.objs.size) (t' := s5.toks) (fun b o n e => hs'.extBut b o n e) I4.free cl0 (.inr cy) cc cp
    · subst hXc
      refine thn (Tn.item (X.comp Nc scope cl H2.objs.size s2 H1 fp) rfl rfl rfl hc i [] s3 σ3 H3 _ I3 (stat fr3) st3 go) fun r s4 ⟨u, hr, h4⟩ => ?_
      subst hr
      refine thn h4 fun _ s5 ⟨x, H5, I5, r5, y5, st5, fr5⟩ => ?_
      have I5' := I5.pinned (stat fr5) (Tn.obj _ _ st5)
      have back : ∀ {σ7 : St} {H7 : Hp} {s7 : Shared}, Inv (X.comp Nc scope cl H2.objs.size s2 H1 fp) ([] ++ pinsAt fp s5.heap) σ7 H7 s7 → Inv (X.comp Nc scope cl H2.objs.size s2 H1 fp) [] σ7 H7 s7 ∧ tn (i + 1) s7.heap ∧ ∀ b ∈ fp, H7 b = none := fun {σ7 H7 s7} I7 => by
        refine ⟨I7.unpinned, Tn.keep _ _ _ st5 fun b hb o e => (I7.pin (b, o) (List.mem_append_right _ (List.mem_append_right _ (mem_pinsAt hb e)))).1, fun b hb => ?_⟩
        obtain ⟨o, e, d⟩ := Tn.obj _ _ st5 b hb
        exact (I7.pin (b, o) (List.mem_append_right _ (List.mem_append_right _ (mem_pinsAt hb e)))).2.1
      refine thn (hg _ _ _ _ _ s5 σ3 H5 x u _ I5' r5 (step x H5 y5)) fun _ s6 ⟨σ6, H6, I6, q6⟩ => ?_
      refine thnT (ht _ _ _ _ _ s6 σ6 H6 _ I6 q6) fun ok s7 H7 I7 q7 => ?_
      cases ok with
      | false =>
        rw [if_neg Bool.false_ne_true] at q7 ⊢
        obtain ⟨m', hm, w7⟩ := q7
        obtain ⟨J1, J2, J3⟩ := back I7
        exact ⟨m', hm, i + 1, ys, σ6, H7, J1, J2, J3, w7⟩
      | true =>
        rw [if_pos rfl] at q7 ⊢
        refine thnE (he _ _ _ _ _ s7 σ6 H7 _ I7 q7) fun y s8 yv H8 I8 r8 ⟨hp8, hl8, m', hm, w8⟩ => ?_
        refine thn (mt_append _ s8 σ6 H8 (.ref s2.heap.objs.size) [yv] _ [y] (fun v' H' => W (i + 1) m' (ys ++ [yv]) σ6 H') I8 rfl (.cons r8 .nil) ⟨_, ys, yv, rfl, rfl, hp8, hl8, w8⟩) fun v9 s9 ⟨_, H9, I9, _, w9⟩ => ?_
        obtain ⟨J1, J2, J3⟩ := back I9
        exact ⟨m', hm, i + 1, ys ++ [yv], σ6, H9, J1, J2, J3, w9⟩
  exact codeAny_compStart_list (loop _ rfl) (Tn.self _ 0 _ _ _ st₁ (loop _ rfl))
end
end L2
set_option Elab.async false
set_option linter.all false
set_option maxRecDepth 100000
namespace L2
open PySem PySem.Spec PyProof.Rows
theorem deep_intsAll {K : PySem.W.Frag} {H : Hp} : ∀ ns : List Int, DeepAll K H (ns.map V.int) (ns.map PyData.int)
  | [] => .nil
  | n :: ns => .cons (.int n) (deep_intsAll ns)
theorem eqv_intsAll : ∀ ns : List Int, PyData.eqvAll (ns.map PyData.int) (ns.map PyData.int) = true
  | [] => by simp [PyData.eqvAll]
  | n :: ns => by
    simp only [List.map_cons, PyData.eqvAll]
    rw [eqv_intsAll ns]
    simp [PyData.eqv]
theorem depth_intsAll : ∀ ns : List Int, PyData.depthAll (ns.map PyData.int) ≤ 1
  | [] => by simp [PyData.depthAll]
  | n :: ns => by
    simp only [List.map_cons, PyData.depthAll]
    have := depth_intsAll ns
    have : (PyData.int n).depth ≤ 1 := by simp [PyData.depth]
    omega
end L2
set_option Elab.async false
set_option linter.all false
set_option maxRecDepth 100000
namespace Pb
open L2 PySem
variable {m : Int} {rs : List Road} {r : Int} {par : Int → Int} {dep : Int → Nat}
end Pb
set_option Elab.async false
set_option linter.all false
set_option maxRecDepth 100000
namespace L2
open PySem PySem.Spec PyProof.Rows
def Itv (K : PySem.W.Frag) (a : Addr) (n : Nat) : It :=
  ⟨fun i H => i < n ∧ ∃ xs x, SqL K H a xs ∧ xs[n - 1 - i]? = some x, fun i H x H' => H' = H ∧ ∀ xs, SqL K H a xs → xs[n - 1 - i]? = some x, fun i H => n ≤ i⟩
def iRev (K : PySem.W.Frag) (tl : TE) : TI := fun σ H R => tl σ H fun x H1 => ∃ a xs, x = .ref a ∧ SqL K H1 a xs ∧ R (Itv K a xs.length) H1
section
variable {X : Cx} {tg e : Expr} {te : TE} {p2 pos : Pos}
end
end L2
set_option Elab.async false
set_option linter.all false
set_option maxRecDepth 100000
namespace L2
open PySem PySem.Spec PyProof.Rows
def tListR (te : TE) : TE := fun σ H Q => te σ H fun x H1 => ∃ i, x = .int i ∧ 0 ≤ i ∧ i ≤ 100000 ∧ ∀ l, H1 l = none → Q (.ref l) (upd H1 l (.lst ((Pb.below i.toNat).map V.int)))
section
variable {X : Cx} {e : Expr} {te : TE} {p1 p2 pos pos2 : Pos}
end
end L2
set_option Elab.async false
set_option linter.all false
set_option maxRecDepth 100000
namespace L2
open PySem PySem.Spec PyProof.Rows PySem.W
section
variable {X : Cx}
end
end L2
set_option Elab.async false
set_option linter.all false
set_option maxRecDepth 100000
namespace L2
open PySem PySem.Spec PyProof.Rows
section
variable {X : Cx}
end
def CDivB (_ j : Int) : Prop := 0 < j ∧ j < 18446744073709551616
theorem op_fdivB {X : Cx} : OpR X (binaryOp .FloorDiv) (rI CDivB fun i j => .int (i / j)) := opI fun i j _ _ _ _ _ hc q => by
  have h1 : (0 : Int) < j := hc.1
  have h2 : j < 18446744073709551616 := hc.2
  refine floordiv_int (by omega) (by rw [Int.fdiv_eq_ediv_of_nonneg i (by omega)]; exact q) (.inl ?_)
  have h3 : j.natAbs.log2 < 64 := (Nat.log2_lt (by omega)).mpr (by omega)
  unfold Builtin.divisionGoesByPylong
  have hz : (j == 0) = false := by simp; omega
  simp only [hz, Bool.false_eq_true, if_false]
  have : ¬ (j.natAbs.log2 / 30 + 1 > 300) := by omega
  simp [this]
theorem atG {xs : List Int} {i : Int} (i0 : 0 ≤ i) (i1 : i < xs.length) : atI (xs.map V.int) i = some (.int (xs.getD i.toNat 0)) := atI_int i0 (by
  have h : i.toNat < xs.length := by omega
  rw [List.getElem?_map, List.getElem?_eq_getElem h]
  simp [List.getD, h])
end L2
set_option Elab.async false
set_option linter.all false
set_option maxRecDepth 100000
namespace Pb
open L2
section
variable {m : Int} {rs : List Road} {r : Int} {par : Int → Int} {dep : Int → Nat}
variable {held : Int → Int} {con : Int → Int → Int}
end
end Pb
set_option Elab.async false
set_option linter.all false
set_option maxRecDepth 100000
namespace Pb
open L2
section
variable {m : Int} {rs : List Road} {r : Int} {par : Int → Int} {dep : Int → Nat} {held : Int → Int}
end
section
open PySem
end
end Pb
set_option Elab.async false
set_option linter.all false
set_option maxRecDepth 100000
namespace L2
open PySem PySem.Spec PyProof.Rows
end L2
set_option Elab.async false
set_option linter.all false
set_option maxRecDepth 100000
namespace L2
open PySem PySem.Spec PyProof.Rows
def Itrs (lo st : Int) (n : Nat) : It := ⟨fun i _ => i < n, fun i H x H' => H' = H ∧ x = .int (lo + i * st), fun i _ => n ≤ i⟩
def iRng3 (ta : TA) : TI := fun σ H R => ta σ H fun vs H1 => ∃ i j c : Int, vs = [.int i, .int j, .int c] ∧ (0 ≤ i ∧ i ≤ 1000000 ∧ 0 ≤ j ∧ j ≤ 1000000 ∧ 0 < c ∧ c ≤ 1000000) ∧ R (Itrs i c (Builtin.Range.rangeSize i j c).toNat) H1
section
variable {X : Cx} {tg : Expr}
end
end L2
set_option Elab.async false
set_option linter.all false
set_option maxRecDepth 100000
namespace L2
open PySem PySem.Spec PyProof.Rows
def rIxX (K : PySem.W.Frag) (c : Bool) : R2 := fun x y H Q => ∃ p xs i v, x = .ref p ∧ y = .int i ∧ SqX K c H p xs ∧ atI xs i = some v ∧ Q v H
theorem ix_any {X : Cx} (c : Bool) : IxR X (rIxX X.K c) := by
  cases c
  · exact ix_tup
  · exact ix_list
theorem ix_anyK {X : Cx} (c : Bool) (K : PySem.W.Frag) (h : X.K = K) : IxR X (rIxX K c) := by subst h; exact ix_any c
theorem ixX {K : PySem.W.Frag} {c : Bool} {H : Hp} {p : Addr} {xs : List V} {i : Int} {v : V} {Q : VK} (h : SqX K c H p xs) (e : atI xs i = some v) (q : Q v H) : rIxX K c (.ref p) (.int i) H Q := ⟨p, xs, i, v, rfl, rfl, h, e, q⟩
theorem if_join {c : Prop} [Decidable c] {A B : Prop} {P : Int → Prop} (m1 m2 : Int) (hB : P m2 → B) (hA : P m1 → A) (h : ∀ m, (m = m1 ∨ m = m2) → P m) : if c then A else B := by
  by_cases z : c
  · rw [if_pos z]; exact hA (h _ (.inl rfl))
  · rw [if_neg z]; exact hB (h _ (.inr rfl))
end L2
namespace Pb
open L2 PySem
theorem pr_take {α β : Type} {R : α → β → Prop} : ∀ (n : Nat) {l₁ : List α} {l₂ : List β}, Paired R l₁ l₂ → Paired R (l₁.take n) (l₂.take n)
  | 0, _, _, _ => by rw [List.take_zero, List.take_zero]; exact .nil
  | _ + 1, _, _, .nil => .nil
  | n + 1, _, _, .cons x xs => .cons x (pr_take n xs)
theorem pr_drop {α β : Type} {R : α → β → Prop} : ∀ (n : Nat) {l₁ : List α} {l₂ : List β}, Paired R l₁ l₂ → Paired R (l₁.drop n) (l₂.drop n)
  | 0, _, _, h => h
  | _ + 1, _, _, .nil => .nil
  | n + 1, _, _, .cons x xs => pr_drop n xs
theorem pr_app {α β : Type} {R : α → β → Prop} {k₁ : List α} {k₂ : List β} (h : Paired R k₁ k₂) : ∀ {l₁ : List α} {l₂ : List β}, Paired R l₁ l₂ → Paired R (l₁ ++ k₁) (l₂ ++ k₂)
  | _, _, .nil => h
  | _, _, .cons x xs => .cons x (pr_app h xs)
theorem pr_ins {α β : Type} {R : α → β → Prop} {ps : List α} {rs : List β} {q : α} {r : β} (n : Nat) (h : Paired R ps rs) (e : R q r) : Paired R (ps.take n ++ q :: ps.drop n) (rs.take n ++ r :: rs.drop n) := pr_app (.cons e (pr_drop n h)) (pr_take n h)
theorem rows_snoc {n : Nat} {rows : List Row} {row : Row} (R : Rows n rows) (k : row.k = (n : Int) + 1) (ok : RowOk row) : Rows (n + 1) (rows ++ [row]) := by
  have rl := R.len
  refine ⟨by rw [List.length_append, rl]; rfl, fun j r hj => ?_⟩
  by_cases hjl : j < rows.length
  · rw [List.getElem?_append_left hjl] at hj
    exact R.ok j r hj
  · have hj2 : j = rows.length := by
      have := (List.getElem?_eq_some_iff.mp hj).1
      rw [List.length_append] at this
      simp at this
      omega
    rw [hj2, List.getElem?_append_right (Nat.le_refl _), Nat.sub_self] at hj
    cases hj
    exact ⟨by rw [hj2, rl]; exact k, ok⟩
section
variable {m : Int} {rs : List Road} {r : Int} {par : Int → Int} {dep : Int → Nat}
end
end Pb
set_option Elab.async false
set_option linter.all false
set_option maxRecDepth 100000
namespace L2
open PySem PySem.Spec PyProof.Rows
section
variable {P : Program} {w : World} {A : Around} {E : Value → Shared → Prop} {s : Shared} {l : Addr} {ob : Obj} {src : Heap → Array Value → Prop} {at' : Addr → Nat → Heap → Prop}
end
def Ite (K : PySem.W.Frag) (c : Bool) (a : Addr) : It :=
  ⟨fun i H => ∃ xs x, SqX K c H a xs ∧ xs[i]? = some x,
   fun i H v H' => ∃ p x, H p = none ∧ v = .ref p ∧ H' = upd H p (.tup [.int i, x]) ∧ ∀ xs, SqX K c H a xs → xs[i]? = some x,
   fun i H => ∃ xs, SqX K c H a xs ∧ xs.length = i⟩
def iEnum (K : PySem.W.Frag) (c : Bool) (tl : TE) : TI := fun σ H R => tl σ H fun x H1 => ∃ a, x = .ref a ∧ (∃ xs, SqX K c H1 a xs) ∧ R (Ite K c a) H1
section
variable {X : Cx} {e : Expr} {te : TE} {p2 pos : Pos}
end
end L2
set_option Elab.async false
set_option linter.all false
set_option maxRecDepth 100000
namespace Pb
open L2 PySem
abbrev TupsAt (H : Hp) : List Addr → List (List Int) → Prop := Paired fun q xs => H q = some (.tup (xs.map V.int))
def dTup (xs : List Int) : PyData := .tuple (xs.map PyData.int)
theorem deep_tup {K : PySem.W.Frag} {H : Hp} {q : Addr} {xs : List Int} (h : H q = some (.tup (xs.map V.int))) : Deep K H (.ref q) (dTup xs) := .tup (SqT.of h) (deep_intsAll xs)
theorem deep_tups {K : PySem.W.Frag} {H : Hp} : ∀ {qs : List Addr} {xss : List (List Int)}, TupsAt H qs xss → DeepAll K H (qs.map V.ref) (xss.map dTup)
  | _, _, .nil => .nil
  | _, _, .cons x xs => .cons (deep_tup x) (deep_tups xs)
theorem eqv_tup (xs : List Int) : PyData.eqv (dTup xs) (dTup xs) = true := by
  unfold dTup
  simp only [PyData.eqv]
  exact eqv_intsAll xs
theorem eqv_tups : ∀ xss : List (List Int), PyData.eqvAll (xss.map dTup) (xss.map dTup) = true
  | [] => by simp [PyData.eqvAll]
  | r :: rs => by
    rw [List.map_cons]
    simp only [PyData.eqvAll]
    rw [eqv_tups rs, eqv_tup]
    rfl
theorem depth_tup (xs : List Int) : (dTup xs).depth ≤ 2 := by
  unfold dTup
  have := depth_intsAll xs
  simp only [PyData.depth]
  omega
theorem depth_tups : ∀ xss : List (List Int), PyData.depthAll (xss.map dTup) ≤ 2
  | [] => by simp [PyData.depthAll]
  | r :: rs => by
    rw [List.map_cons]
    simp only [PyData.depthAll]
    have := depth_tups rs
    have h := depth_tup r
    omega
end Pb
namespace L2
open PySem PySem.Spec PyProof.Rows
def tPar3 (i j k : Nat) (ta : TA) : TS := fun D σ H => ta σ H fun vs H1 => ∃ v w z, vs = [v, w, z] ∧ D.nx (((σ.set i (some v)).set j (some w)).set k (some z)) H1
end L2
set_option Elab.async false
set_option linter.all false
set_option maxRecDepth 100000
namespace Pb
open L2
section
variable {m : Int} {rs : List Road} {r : Int} {par : Int → Int} {dep : Int → Nat} {held held' : Int → Int} {con : Int → Int → Int}
end
end Pb
set_option Elab.async false
set_option linter.all false
set_option maxRecDepth 100000
namespace L2
open PySem PySem.Spec PyProof.Rows
theorem cut_lo (zs : List V) {k : Int} (k0 : 0 ≤ k) : cutV zs (some k) none = zs.drop k.toNat := by
  unfold cutV
  have e1 : HT.sIx zs.length zs.length none = zs.length := rfl
  have e2 : HT.sIx zs.length 0 (some k) = min k.toNat zs.length := by
    show (if k < 0 then (k + (zs.length : Int)).toNat else min k.toNat zs.length) = _
    rw [if_neg (by omega)]
  rw [e1, e2, List.take_of_length_le (by rw [List.length_drop]; omega)]
  by_cases c : k.toNat ≤ zs.length
  · rw [Nat.min_eq_left c]
  · rw [Nat.min_eq_right (by omega), List.drop_of_length_le (Nat.le_refl _), List.drop_of_length_le (by omega)]
end L2
namespace Pb
open L2 PySem
end Pb
set_option Elab.async false
set_option linter.all false
set_option maxRecDepth 100000
namespace Pb
open L2 PySem
section
variable {m : Int} {rs : List Road}
end
def AtX (c : Bool) (H : Hp) (a : Addr) (xs : List V) : Prop := H a = some (if c then .lst xs else .tup xs)
theorem AtX.sq {K : PySem.W.Frag} {c : Bool} {H : Hp} {a : Addr} {xs : List V} (h : AtX c H a xs) : SqX K c H a xs := by
  cases c
  · exact SqT.of h
  · exact SqL.of h
end Pb
set_option Elab.async false
set_option linter.all false
set_option maxRecDepth 100000
namespace L2
open PySem PySem.Spec PyProof.Rows
section
variable {X : Cx} {i o : Expr} {ty td : TE}
def tDInN (ty td : TE) : TE := fun σ H Q => ty σ H fun y H1 => td σ H1 fun x H2 => ∃ a, x = .ref a ∧ ((∃ o, DGet H2 a y o ∧ Q (.bl o.isSome) H2) ∨ (y = .non ∧ (∃ kvs, H2 a = some (.dK kvs)) ∧ Q (.bl false) H2))
end
end L2
set_option Elab.async false
set_option linter.all false
set_option maxRecDepth 100000
namespace Pb
open L2 PySem
section
variable {m : Int} {rs : List Road} {r b : Int} {par : Int → Int} {dep : Int → Nat}
end
end Pb
namespace L2
theorem cutS {A B : TS} {D : Ends} {σ : St} {H : Hp} (h : ∀ N : St → Hp → Prop, (∀ σ' H', B D σ' H' → N σ' H') → A { D with nx := N } σ H) : tSeq A B D σ H := h (B D) fun _ _ z => z
end L2
set_option Elab.async false
set_option linter.all false
set_option maxRecDepth 100000
namespace L2
open PySem
theorem for_rangeH {lo : Int} {n : Nat} {g : TG} {tb : TS} {D : Ends} {σ : St} {H : Hp} (Pv : Nat → St → Hp → Prop) (h0 : Pv 0 σ H)
    (hs : ∀ (i : Nat) (σ : St) (H : Hp) (N B : St → Hp → Prop), (∀ σ H, (g (.int (lo + i)) σ H fun σ2 H2 => tb { D with nx := N, ct := N, bk := D.nx } σ2 H2) → B σ H) → (∀ σ' H', Pv (i + 1) σ' H' → N σ' H') → i < n → Pv i σ H → B σ H)
    (hd : ∀ (B : St → Hp → Prop) σ H, (∀ σ H, D.nx σ H → B σ H) → Pv n σ H → B σ H) : ForGo (Itr lo n) D g tb σ H :=
  for_rangeN Pv h0 (fun i σ H N hN hi p => hs i σ H N (fun σ H => g (.int (lo + i)) σ H fun σ2 H2 => tb { D with nx := N, ct := N, bk := D.nx } σ2 H2) (fun _ _ z => z) hN hi p) fun σ H p => hd (fun σ H => D.nx σ H) σ H (fun _ _ z => z) p
theorem while_H {c : TT} {tb : TS} {D : Ends} {σ : St} {H : Hp} (W : Nat → St → Hp → Prop) (n0 : Nat) (h0 : W n0 σ H)
    (hs : ∀ (n : Nat) (σ : St) (H : Hp) (N : St → Hp → Prop) (B : Nat → St → Hp → Prop), (∀ n σ H, (c σ H fun b H1 => if b = true then ∃ N : St → Hp → Prop, (∀ σ' H', N σ' H' → ∃ m', m' < n ∧ W m' σ' H') ∧ tb { D with nx := N, ct := N, bk := D.nx } σ H1 else D.nx σ H1) → B n σ H) → (∀ n' σ' H', n' < n → W n' σ' H' → N σ' H') → (∀ σ' H', N σ' H' → ∃ m', m' < n ∧ W m' σ' H') → W n σ H → B n σ H) : tWhile c tb D σ H :=
  while_n W n0 h0 fun n σ H N hN hN2 w => hs n σ H N (fun n σ H => c σ H fun b H1 => if b = true then ∃ N : St → Hp → Prop, (∀ σ' H', N σ' H' → ∃ m', m' < n ∧ W m' σ' H') ∧ tb { D with nx := N, ct := N, bk := D.nx } σ H1 else D.nx σ H1) (fun _ _ _ z => z) hN hN2 w
end L2
set_option Elab.async false
set_option linter.all false
set_option maxRecDepth 100000
namespace Pb
open L2 PySem
section
variable {m : Int} {rs : List Road} {r : Int} {par : Int → Int} {dep : Int → Nat}
variable {para parb parc : Int → Int} {depa depb depc : Int → Nat} {a b c : Int}
end
section
variable {m : Int} {rs : List Road} {r b : Int} {par : Int → Int} {dep : Int → Nat}
end
end Pb
set_option Elab.async false
set_option linter.all false
set_option maxRecDepth 100000
namespace Pb
open L2 PySem
section
variable {m : Int} {rs : List Road} {r b : Int} {par : Int → Int} {dep : Int → Nat}
end
end Pb
set_option Elab.async false
set_option linter.all false
namespace L2
open PySem
def CDivL (_ j : Int) : Prop := 0 < j ∧ j.natAbs.log2 < 9000
theorem op_fdivL {X : Cx} : OpR X (binaryOp .FloorDiv) (rI CDivL fun i j => .int (i / j)) := opI fun i j _ _ _ _ _ hc q => by
  have h1 : (0 : Int) < j := hc.1
  exact PyProof.Rows.floordiv_int (by omega) (by rw [Int.fdiv_eq_ediv_of_nonneg i (by omega)]; exact q) (.inl (PyProof.noPylong_of_log2 hc.2))
end L2
namespace Pb
open PySem L2
end Pb
set_option Elab.async false
set_option linter.all false
set_option maxRecDepth 100000
set_option exponentiation.threshold 5000
namespace Pb
open L2 PySem
section
variable {m : Int} {rs : List Road} {r : Int} {par : Int → Int} {dep : Int → Nat}
variable {op : Int → Int → Int} {held : Int → Int} {con : Int → Int → Int}
end
end Pb
set_option Elab.async false
set_option linter.all false
set_option maxRecDepth 100000
namespace L2
open PySem PySem.Spec PyProof.Rows
section
variable {X : Cx}
end
end L2
namespace Pb
end Pb
set_option Elab.async false
set_option linter.all false
set_option maxRecDepth 100000
namespace L2
open PySem PySem.Spec PyProof.Rows
section
variable {X : Cx}
theorem pb_str : bootBuiltins "str" = some (.type "str") := by decide +kernel
end
end L2
set_option Elab.async false
set_option linter.all false
set_option maxRecDepth 100000
namespace L2
open PySem PySem.Spec PyProof.Rows
section
variable {P : Program} {w : World} {A : Around} {R : Result → Shared → Prop} {I S : Addr} {fp wr : List Addr} {n : Nat} {Pv : Nat → Value → Prop} {St : Nat → Heap → Prop} {bt : Nat → Nat → Bool} {kw : List (Str × Value)}
end
section
variable {X : Cx} {x : Str} {p pos kpos : Pos} {e de : Expr} {t tk : TA}
def tMinD (K : PySem.W.Frag) (t tk : TA) : TE := fun σ H Q => t σ H fun vs H1 => tk σ H1 fun zs H2 => ∃ (q : Addr) (ns : List Int) (d : V), vs = [.ref q] ∧ zs = [d] ∧ SqL K H2 q (ns.map V.int) ∧ ns ≠ [] ∧ ∀ y, y ∈ ns → (∀ x ∈ ns, y ≤ x) → Q (.int y) H2
def tNotT (t : TE) : TE := fun σ H Q => t σ H fun x H1 => ∃ b, x = .bl b ∧ Q (.bl (b != true)) H1
end
end L2
set_option Elab.async false
set_option linter.all false
set_option maxRecDepth 100000
namespace Pb
open L2 PySem
section
variable {m : Int} {rs : List Road} {r : Int} {par : Int → Int} {dep : Int → Nat}
variable {ch : Int → Option Int} {w : Int} {cn : Int → Int}
end
end Pb
set_option Elab.async false
set_option linter.all false
set_option maxRecDepth 100000
namespace L2
open PySem PySem.Spec PyProof.Rows PySem.W
section
variable {n : Nat}
variable (hn : 0 < n)
include hn
end
section
variable {prog : Program} {w : World} {A : Around} {E : Value → Shared → Prop} {s : Shared}
end
end L2
set_option Elab.async false
set_option linter.all false
set_option maxRecDepth 100000
namespace L2
open PySem PySem.Spec PyProof.Rows PySem.W Pb
section
variable {prog : Program} {w : World} {A : Around} {E : Value → Shared → Prop} {s : Shared} {it d : Addr} {i ep : Nat} {es : Array DictEntry}
end
section
variable {prog : Program} {w : World} {A : Around} {E : Value → Shared → Prop} {s : Shared} {fin : Bool} {C : Bool → Shared → Prop}
end
section
variable {prog : Program} {w : World} {A : Around} {E : Value → Shared → Prop} {s : Shared}
end
section
variable {X : Cx}
end
end L2
set_option Elab.async false
set_option linter.all false
set_option maxRecDepth 100000
namespace L2
end L2
namespace Pb
open L2 PySem
section
variable {m : Int} {rs : List Road} {r : Int} {par : Int → Int} {dep : Int → Nat}
end
section
end
end Pb
set_option Elab.async false
set_option linter.all false
set_option maxRecDepth 100000
namespace L2
open PySem PySem.Spec PyProof.Rows
def tDispT (tk tv : TE) : TE := fun σ H Q => ∀ p, H p = none → tPairs [(tk, tv)] σ (upd H p (.dT [])) fun ps H2 => H2 p = some (.dT []) ∧ ∃ (k : List Key) (b : Addr) (y : V), ps = [(.ref b, y)] ∧ H2 b = some (.tup (k.map kV)) ∧ Q (.ref p) (upd H2 p (.dT [(k, y)]))
end L2
set_option Elab.async false
set_option linter.all false
set_option maxRecDepth 100000
namespace Pb
open L2 PySem
end Pb
namespace Pb
open L2 PySem
section
variable {m : Int} {rs : List Road} {xs : List Int}
variable {r : Int} {par : Int → Int} {dep : Int → Nat}
end
end Pb
set_option Elab.async false
set_option linter.all false
set_option maxRecDepth 100000
namespace L2
open PySem PySem.Spec PyProof.Rows Pb
section
variable {X : Cx}
end
end L2
set_option Elab.async false
set_option linter.all false
set_option maxRecDepth 100000
namespace L2
open PySem PySem.Spec PyProof.Rows
end L2
namespace Pb
end Pb
namespace L2
open PySem Pb
end L2
namespace L2
open PySem
end L2
namespace L2
open PySem
end L2
namespace L2
open PySem PySem.Spec PyProof.Rows Pb
end L2
namespace L2
open PySem
end L2
set_option Elab.async false
set_option linter.all false
set_option maxRecDepth 100000
namespace Pb
open L2 PySem
section
variable {m : Int} {rs : List Road} {r : Int} {par : Int → Int} {dep : Int → Nat}
end
section
variable {m : Int} {rs : List Road} {xs : List Int}
end
end Pb
set_option Elab.async false
set_option linter.all false
set_option maxRecDepth 100000
namespace L2
open PySem PySem.Spec PyProof.Rows PySem.W Pb
section
variable {X : Cx} {pins : List (Addr × Obj)} {σ : St} {H : Hp} {s : Shared}
end
def Itd (d : Addr) (o : Obj) (kvs : List (List Key × V)) : It :=
  ⟨fun i H => H d = some (.frz o (.dT kvs)) ∧ i < kvs.length, fun i H x H' => H' = H ∧ ∃ (q : Addr) (k : List Key) (v : V), x = .ref q ∧ kvs[i]? = some (k, v) ∧ H q = some (.tup (k.map kV)), fun i H => H d = some (.frz o (.dT kvs)) ∧ i = kvs.length⟩
def tForD (tl : TE) (g : TG) (tb : TS) : TS := fun D σ H => tl σ H fun x H1 => ∃ (d : Addr) (kvs : List (List Key × V)), x = .ref d ∧ H1 d = some (.dT kvs) ∧
  ∀ o, ForGo (Itd d o kvs) { D with nx := fun σ' H' => H' d = some (.frz o (.dT kvs)) ∧ D.nx σ' (upd H' d (.dT kvs)) } g tb σ (upd H1 d (.frz o (.dT kvs)))
section
variable {X : Cx} {tg : Expr}
end
end L2
set_option Elab.async false
set_option linter.all false
set_option maxRecDepth 100000
namespace Pb
open L2 PySem
section
variable {α β : Type}
end
section
variable {m : Int} {rs : List Road} {r : Int} {par : Int → Int} {dep : Int → Nat}
end
end Pb
namespace Pb
open L2 PySem
section
variable {m : Int} {rs : List Road} {r : Int} {par : Int → Int} {dep : Int → Nat} {to : Bool}
end
end Pb
namespace Pb
open L2 PySem
end Pb
namespace Pb
open L2 PySem
end Pb
set_option Elab.async false
set_option linter.all false
set_option maxRecDepth 100000
namespace L2
open PySem PySem.Spec PyProof.Rows
section
variable {X : Cx} {cx : Str} {Nc : List Str} {own : Nat} {js : List Nat} {scope : Scope} {cl : List (Str × Addr)}
end
section
variable {X : Cx} {cx : Str} {Nc : List Str} {own : Nat} {js : List Nat} {scope : Scope} {cl : List (Str × Addr)}
end
end L2
set_option Elab.async false
set_option linter.all false
set_option maxRecDepth 100000
namespace L2
open PySem PySem.Spec PyProof.Rows PySem.W
section
variable {X : Cx}
theorem mt_zfill : MtM X "str.zfill" (fun x vs H Q => ∃ z i, x = .str z ∧ vs = [.int i] ∧ PadOk i = true ∧ Q (.str (Txt.zfill z i)) H) := by
  intro pins s σ H x vs v us Q I rx rv h
  obtain ⟨z, i, rfl, rfl, hp, q⟩ := h
  obtain ⟨t, rfl⟩ := rx
  obtain ⟨u, rfl, t2, rfl⟩ := vals1 rv
  exact SC.zfill hp fun t' k => ⟨.str _, H, I.tok _, ⟨_, rfl⟩, q⟩
theorem strs_are : ∀ {ys : List Str} {its : List Value}, Vals (ys.map V.str) its → StrsAre its ys
  | [], _, .nil => .nil
  | y :: ys, _, .cons h r => by
    obtain ⟨t, rfl⟩ := h
    exact .cons y t (strs_are r)
def rJoin (K : PySem.W.Frag) : V → List V → Hp → VK → Prop := fun x vs H Q => ∃ z l ys, x = .str z ∧ vs = [.ref l] ∧ SqL K H l (ys.map V.str) ∧ (ys.map (·.length)).sum + ys.length * z.length ≤ 16777216 ∧ Q (.str (Str.join z ys)) H
theorem mt_join : MtM X "str.join" (rJoin X.K) := by
  intro pins s σ H x vs v us Q I rx rv h
  obtain ⟨z, l, ys, rfl, rfl, hl, hok, q⟩ := h
  obtain ⟨t, rfl⟩ := rx
  obtain ⟨u, rfl, rl⟩ := vals1 rv
  cases rl
  obtain ⟨its, r, pl, hz⟩ := I.list hl
  refine join_list pl.isList (by simpa using strs_are r) hok fun t' k => ⟨.str _, H, I.tok _, ⟨_, rfl⟩, ?_⟩
  unfold Txt.join
  rw [StrLaws.glued_eq_join]
  exact q
theorem strs_vals : ∀ l : List (Str × Tok), Vals ((l.map (·.1)).map V.str) (strValues l)
  | [] => .nil
  | (y, t) :: l => .cons ⟨t, rfl⟩ (strs_vals l)
theorem mt_split : MtM X "str.split" (fun x vs H Q => ∃ z y, x = .str z ∧ vs = [.str y] ∧ (y.length == 0) = false ∧ z.length ≤ 60000 ∧ ∀ l, H l = none → Q (.ref l) (upd H l (.lst ((Txt.split z y).map V.str)))) := by
  intro pins s σ H x vs v us Q I rx rv h
  obtain ⟨z, y, rfl, rfl, hy, hz, q⟩ := h
  obtain ⟨t, rfl⟩ := rx
  obtain ⟨u', rfl, u, rfl⟩ := vals1 rv
  have hsz : z.length ≤ sizeLine := Nat.le_trans hz (by decide)
  have fin : ∀ (l : List (Str × Tok)) (k : Nat), l.map (·.1) = Txt.split z y → l.length ≤ sizeLine → EP X pins σ Q (.ref s.heap.objs.size) { s with toks := k, heap := s.heap.push { cls := .type "list", data := .seq (strValues l).toArray } } := fun l k e hl => by
    refine ⟨.ref s.heap.objs.size, _, I.laid (a := s.heap.objs.size) (o := .lst ((Txt.split z y).map V.str)) (t' := k) (fun b u e => Heap.get?_push_of_some _ e) (Nat.le_refl _) ⟨?_, strValues l, _, ?_, Heap.get?_push_size _ rfl⟩, rfl, q _ (I.hok.fresh (Nat.le_refl _))⟩
    · rw [List.length_map, ← e, List.length_map]; exact hl
    · rw [← e]; exact strs_vals l
  have sl : (Txt.split z y).length ≤ sizeLine := Nat.le_trans (split_le z y) (Nat.le_trans (Nat.add_le_add_right hz 2) (by decide))
  have ln : ∀ {l : List (Str × Tok)}, l.map (·.1) = Txt.split z y → l.length ≤ sizeLine := fun {l} e => by
    have := congrArg List.length e
    rw [List.length_map] at this
    rw [this]; exact sl
  cases h1 : (decide (z.length < y.length) || decide (Builtin.Str.strKind z < Builtin.Str.strKind y))
  · cases hf : (Builtin.Str.occurrences z y 0 z.length (z.length + 1)).isEmpty
    · have es : Txt.split z y = Builtin.Str.partsBetween z (Builtin.Str.occurrences z y 0 z.length (z.length + 1)) y.length := by
        unfold Txt.split
        rw [if_neg (ne_true_of_eq_false h1), if_neg (ne_true_of_eq_false hf)]
      refine call_meets F.slot_str_split (typeIs_str _ _ _) F.entry_str_split (F.args_str_split_2 _ _) (meets_str_split_sep z y t u h1 hy hf hsz (by rw [← es]; exact sl)) ?_
      show wants _ _ _ { s with toks := _, heap := s.heap.push { cls := .type "list", data := .seq (strsFrom s.toks (Builtin.Str.partsBetween z (Builtin.Str.occurrences z y 0 z.length (z.length + 1)) y.length)).toArray } }
      rw [strsFrom_eq]
      have e : (numbered s.toks (Builtin.Str.partsBetween z (Builtin.Str.occurrences z y 0 z.length (z.length + 1)) y.length)).map (·.1) = Txt.split z y := (numbered_texts _ _).trans es.symm
      exact fin _ _ e (ln e)
    · have e : [(z, t)].map (·.1) = Txt.split z y := by
        unfold Txt.split
        rw [if_neg (ne_true_of_eq_false h1), if_pos hf]
        rfl
      exact call_meets F.slot_str_split (typeIs_str _ _ _) F.entry_str_split (F.args_str_split_2 _ _) (meets_str_split_not_found z y t u h1 hy hf) (fin [(z, t)] s.toks e (ln e))
  · have e : [(z, t)].map (·.1) = Txt.split z y := by
      unfold Txt.split
      rw [if_pos h1]
      rfl
    exact call_meets F.slot_str_split (typeIs_str _ _ _) F.entry_str_split (F.args_str_split_2 _ _) (meets_str_split_cannot_occur z y t u h1) (fin [(z, t)] s.toks e (ln e))
theorem call_intT : CallR X (.type "int") (fun xs H Q => ∃ z i, xs = [.str z] ∧ PySem.intText? z = some i ∧ z.length ≤ 640 ∧ Q (.int i) H) := by
  intro pins s σ H xs us Q I r h
  obtain ⟨z, i, rfl, hi, hl, q⟩ := h
  obtain ⟨u, rfl, t, rfl⟩ := vals1 r
  exact KIN.call_text hi hl ⟨.int i, H, I.tok _, ⟨_, rfl⟩, q⟩
end
def Its (z : Str) : It := ⟨fun i _ => i < z.cps.size, fun i H x H' => H' = H ∧ ∃ c, z.cps[i]? = some c ∧ x = .str ⟨#[c]⟩, fun i _ => z.cps.size ≤ i⟩
theorem turn_str {P : Program} {w : World} {K : PySem.W.Frag} {tg : Expr} (it : Addr) (z : Str) (t : Tok) : Turn P w K tg (Its z) [it] it (fun i h => h.IsStrIter it "str_ascii_iterator" z t i) where
  mem := by simp
  obj := fun i h st b hb => by
    have e : b = it := by simpa using hb
    subst e
    obtain ⟨o, e, c, d⟩ := st
    exact ⟨o, e, fun v z => by rw [d] at z; cases z⟩
  keep := fun i h h' st k => let ⟨o, ho, r⟩ := st; ⟨o, k it (by simp) o ho, r⟩
  item := by
    intro X hP hw hK hc i pins s σ H E I hf st hg
    subst hP hw hK
    have hg : i < z.cps.size := hg
    obtain ⟨f0, f1, f2, f3, f4, f5⟩ := hf it (by simp)
    refine wpAny_pyNext_ascii_item st (c := z.cps[i]) (by simp [hg]) fun h' st' sb => ?_
    have I1 : Inv X pins σ H { s with heap := h', toks := s.toks + 1 } := I.turned (t' := s.toks + 1) (fun b o hb e => (sb.2 b hb).trans e) f0 f1 f3 f4 f5
    obtain ⟨o, e, c, d⟩ := id st'
    exact ⟨_, rfl, go_of (s := { s with heap := h', toks := s.toks + 1 }) e c d (by decide) ⟨.str ⟨#[z.cps[i]]⟩, H, I1, ⟨_, rfl⟩, ⟨rfl, _, by simp [hg], rfl⟩, st', fun b hb => (hf b hb).1⟩⟩
  done := by
    intro X hP hw hK hc i pins s σ H E I hf st hg
    subst hP hw hK
    have hg : z.cps.size ≤ i := hg
    obtain ⟨f0, f1, f2, f3, f4, f5⟩ := hf it (by simp)
    exact wpAny_pyNext_ascii_end (I.ok.hd hc) st (by simp [hg]) fun h' eb => ⟨rfl, I.turned (t' := s.toks) (fun b o hb e => eb b o hb e) f0 f1 f3 f4 f5⟩
  self := fun _ _ _ _ _ st h => wpAny_pyIter_striter_ascii st h
section
variable {X : Cx} {tg : Expr}
def iStr (tl : TE) : TI := fun σ H R => tl σ H fun x H1 => ∃ z, x = .str z ∧ z.cps.all (· < 128) = true ∧ R (Its z) H1
theorem pi_str {l : Expr} {tl : TE} (hl : PE X l tl) : PI X tg l (iStr tl) := by
  intro pins s σ H R I h
  refine thnE (hl pins s σ H _ I h) fun v s1 x H1 I1 r1 q1 => ?_
  obtain ⟨z, e, ha, q⟩ := q1
  subst e
  obtain ⟨t, rfl⟩ := r1
  refine wpAny_pyIter_ascii ha ?_
  refine ⟨s1.heap.objs.size, [s1.heap.objs.size], _, _, H1, rfl, I1.kept (t' := s1.toks) fun b o e => Heap.get?_push_of_some _ e, turn_str _ z t, ⟨_, Heap.get?_push_size _ rfl, rfl, rfl⟩, fun b hb => ?_, q⟩
  have e : b = s1.heap.objs.size := by simpa using hb
  subst e
  exact I1.fpOk (Nat.le_refl _) (I1.hok.fresh (Nat.le_refl _))
end
section
variable {P : Program} {w : World} {A : Around} {E : Value → Shared → Prop} {s : Shared}
theorem gives_all {z : Str} : ∀ {l : List (Str × Tok)}, Builtin.Str.tooLong ((l.map (·.1)).toArray.foldl (· + ·.length + z.length) 0) = false → Gives (joinTail z (strValues l)) (joinMade z l)
  | [], h => gives_joinTail z [] h
  | [p], h => gives_joinTail z [p] h
  | p :: q :: r, h => gives_joinTail z (p :: q :: r) h
theorem call_join_rev (hh : A.handled = none) {I l : Addr} {its : Array Value} {ys : List Str} {z : Str} {t : Tok} {Q : Value → Shared → Prop} (st : RevAt I l its 0 s.heap) (ne : l ≠ I) (hz : its.size ≤ sizeLine) (hi : StrsAre its.toList ys)
    (hok : (ys.map (·.length)).sum + ys.length * z.length ≤ 16777216)
    (hQ : ∀ (s' : Shared) (t' k : Nat), s'.os = s.os → s'.gens = s.gens → s'.drawn = s.drawn → (∀ b o, b ≠ I → s.heap.get? b = some o → s'.heap.get? b = some o) → s.heap.objs.size ≤ s'.heap.objs.size → Q (.str (Str.join z ys.reverse) t') { s' with toks := k }) :
    wpAny (model P w) A (call (.builtin "str.join") [.str z t, .ref I]) Q E s := by
  refine wpAny_call (codeAny_call_builtin F.slot_str_join.plain F.entry_str_join (F.slot_str_join.check _ _ _ _ _ _ _ _ (typeIs_str _ _ _) (F.args_str_join_2 _ _) ?_))
  rw [join_tree_other]
  refine wpAny_bind (wpAny_typeOf st.2.1.typeIs ?_)
  show wpAny _ A.in1 ((pyIter (.ref I)).tryCatch _ >>= fun it => collect it >>= fun items => joinTail z items) _ _ s
  refine wpAny_bind (wpAny_tryCatch (wpAny_pyIter_revIter st.2.1 ?_))
  have hh2 : A.in1.handled = none := hh
  refine wpAny_bind (collect_rev hh2 st ne hz fun s' acc h1 h2 h3 h4 h5 hacc => ?_)
  obtain ⟨al, rfl⟩ : ∃ al : List Value, acc = al.toArray := ⟨acc.toList, by simp⟩
  obtain ⟨il, rfl⟩ : ∃ il : List Value, its = il.toArray := ⟨its.toList, by simp⟩
  have er := rev_items hacc
  subst er
  obtain ⟨l0, hv, ht⟩ := strsAre_values hi
  have hv : strValues l0 = il := by simpa using hv.symm
  have e1 : strValues l0.reverse = il.reverse := by
    rw [← hv]
    unfold strValues
    rw [List.map_reverse]
  have e2 : l0.reverse.map (·.1) = ys.reverse := by rw [List.map_reverse, ht]
  show wpAny _ _ (joinTail z il.reverse.toArray.toList) _ _ s'
  rw [show il.reverse.toArray.toList = strValues l0.reverse by rw [e1]]
  have hok' : JoinOk z (l0.reverse.map (·.1)) = true := by
    refine joinOk_of ?_
    rw [e2, List.map_reverse, List.sum_reverse, List.length_reverse]
    exact hok
  unfold JoinOk at hok'
  rw [Bool.not_eq_true'] at hok'
  have g := gives_all hok'
  refine g P w A (wants Q E) s' (post_join l0.reverse ⟨joinFit_length hok', fun t' k => ?_⟩)
  have : Txt.join z (l0.reverse.map (·.1)) = Str.join z ys.reverse := by
    unfold Txt.join
    rw [StrLaws.glued_eq_join, e2]
  rw [this]
  exact hQ s' t' k h1 h2 h3 h4 h5
end
section
variable {X : Cx} {e : Expr} {te : TE} {p2 apos cpos pos2 : Pos} {z : Str} {zp : Pos} {zk : Nat}
def tJoinR (K : PySem.W.Frag) (z : Str) (te : TE) : TE := fun σ H Q => te σ H fun x H1 => ∃ (a : Addr) (ys : List Str), x = .ref a ∧ SqL K H1 a (ys.map V.str) ∧ (ys.map (·.length)).sum + ys.length * z.length ≤ 16777216 ∧ Q (.str (Str.join z ys.reverse)) H1
theorem pe_joinR (hc : X.calm = true) (hg : Gl X "reversed") (hm : X.mg "reversed" = none) (he : PE X e te)
    (hbase : attributeBase (.Constant (.str z) zk zp) "join" X.env (eval (.Constant (.str z) zk zp) X.env) = eval (.Constant (.str z) zk zp) X.env := by rfl)
    (hfew : ((backTo cpos (starEach [.Call (.Name "reversed" p2) [e] [] pos2] X.env)).all (fun x => !x.1) && (backToKw cpos (keywordEach [] X.env)).all (fun x => x.1.isSome)
      && decide ([Expr.Call (.Name "reversed" p2) [e] [] pos2].length + ([] : List Keyword).length + (if ([] : List Keyword).isEmpty then 0 else 1) < 30)) = true := by rfl)
    (hline : (apos.endLine == cpos.line) = true := by rfl) (h1 : starEach [.Call (.Name "reversed" p2) [e] [] pos2] X.env = [(false, eval (.Call (.Name "reversed" p2) [e] [] pos2) X.env)] := by rfl) (h2 : starEach [e] X.env = [(false, eval e X.env)] := by rfl) :
    PE X (.Call (.Attribute (.Constant (.str z) zk zp) "join" apos) [.Call (.Name "reversed" p2) [e] [] pos2] [] cpos) (tJoinR X.K z te) := by
  intro pins s σ H Q I h
  refine wpAny_Call_method_late hbase hfew hline rfl (thnE (pe_str pins s σ H (fun x H' => x = .str z ∧ H' = H) I ⟨rfl, rfl⟩) fun v s1 x H1 I1 r1 ⟨ex, eH⟩ => ?_)
  subst ex eH
  obtain ⟨t, rfl⟩ := r1
  refine ⟨"str", "str.join", F.plainAttrs_str, F.slot_str_join, F.type_str_join, typeIs_str _ _ _, (fun _ e => nomatch e), ?_⟩
  refine Calls.callWith_builtin (by rw [h1]; rfl) (Calls.evalArgs_plain ?_)
  refine rev_arg (pos := cpos) hg hm he I1 h h1 h2 (fun s2 H2 x a ys its I2 q2 ex sa rv st ne hz => ?_) fun x H1 ⟨a, ys, ex, sa, _⟩ => ⟨a, _, ex, sa⟩
  obtain ⟨a', ys', ex', sa', hok, q⟩ := q2
  rw [ex] at ex'
  cases ex'
  have ey := I2.list_inj sa sa'
  subst ey
  refine call_join_rev (I2.ok.hd hc) st ne hz (by simpa using strs_are rv) hok fun s' t' k e1 e2 e3 k4 k5 => ?_
  obtain ⟨hs, gs, ds, ts, os'⟩ := s'
  simp only at e1 e2 e3 k4 k5
  subst e1 e2 e3
  have kk : ∀ b u, s2.heap.get? b = some u → hs.get? b = some u := fun b u eb => k4 b u (Nat.ne_of_lt (Heap.lt_size eb)) (Heap.get?_push_of_some _ eb)
  exact ⟨.str _, H2, I2.kept (t' := k) kk, ⟨_, rfl⟩, q⟩
end
theorem pe_globS {X : Cx} {x y : Str} {pos : Pos} (hg : Gl X x) (hm : ∃ t, X.mg x = some (.str y t)) (hd : (x == ("__debug__" : Str)) = false := by decide) : PE X (.Name x pos) (tC (.str y)) := by
  obtain ⟨t, e⟩ := hm
  exact pe_glob hg e ⟨t, rfl⟩ hd
theorem comp_str {z : Str} {p : Addr} {Q : VK} {g : TG} {tc : TT} {te : TE} {σ0 : St} {H0 : Hp} (Pv : Nat → List V → St → Hp → Prop) (h0 : Pv 0 [] σ0 H0)
    (hs : ∀ (i c : Nat) (ys : List V) (σ : St) (H : Hp) (N : List V → St → Hp → Prop), (∀ ys' σ' H', Pv (i + 1) ys' σ' H' → N ys' σ' H') → z.cps.toList[i]? = some c → Pv i ys σ H → g (.str ⟨#[c]⟩) σ H fun σ2 H2 => tc σ2 H2 fun b H3 =>
      if b = true then te σ2 H3 fun y H4 => H4 p = some (.lst ys) ∧ ys.length < sizeLine ∧ N (ys ++ [y]) σ2 (upd H4 p (.lst (ys ++ [y]))) else N ys σ2 H3)
    (hd : ∀ ys σ H, Pv z.cps.toList.length ys σ H → Q (.ref p) H) : CompGo (Its z) p Q g tc te σ0 H0 := by
  have sz : z.cps.size = z.cps.toList.length := by simp
  refine ⟨fun i m ys σ H => m = z.cps.toList.length - i ∧ i ≤ z.cps.toList.length ∧ Pv i ys σ H, ⟨z.cps.toList.length, by simp, Nat.zero_le _, h0⟩, ?_⟩
  rintro i m ys σ H ⟨rfl, hi, pv⟩
  by_cases hlt : i < z.cps.toList.length
  · refine .inr ⟨by show i < z.cps.size; omega, fun x H' y => ?_⟩
    obtain ⟨rfl, c, hc, rfl⟩ := y
    exact hs i c ys σ _ (fun ys' σ' H' => ∃ m', m' < z.cps.toList.length - i ∧ (m' = z.cps.toList.length - (i + 1) ∧ i + 1 ≤ z.cps.toList.length ∧ Pv (i + 1) ys' σ' H')) (fun ys' σ' H' pv' => ⟨z.cps.toList.length - (i + 1), by omega, rfl, hlt, pv'⟩) (by rw [Array.getElem?_toList]; exact hc) pv
  · have e : i = z.cps.toList.length := by omega
    subst e
    exact .inl ⟨by show z.cps.size ≤ _; omega, hd ys σ H pv⟩
end L2
set_option Elab.async false
set_option linter.all false
set_option maxRecDepth 100000
namespace Pb
open L2 PySem PySem.W NumText
def figs (n : Nat) : List Nat := (Nat.toDigits 10 n).map Char.toNat
def FS (n : Nat) : Str := ⟨(figs n).toArray⟩
theorem FS_list (n : Nat) : (FS n).cps.toList = figs n := rfl
theorem str_ext {a b : Str} (h : a.cps.toList = b.cps.toList) : a = b := by
  cases a; cases b
  congr 1
  exact Array.toList_inj.mp h
theorem FS_of (n : Nat) : Str.ofString (toString ((n : Nat) : Int)) = FS n := str_ext (KIN.signs_num n)
theorem dchar : ∀ d : Nat, d < 10 → (Nat.digitChar d).toNat = 48 + d := by decide
theorem figs_lt {n : Nat} (h : n < 10) : figs n = [48 + n] := by
  unfold figs
  rw [Nat.toDigits_of_lt_base h]
  show [(Nat.digitChar n).toNat] = _
  rw [dchar n h]
theorem figs_ge {n : Nat} (h : 10 ≤ n) : figs n = figs (n / 10) ++ [48 + n % 10] := by
  have hm : n % 10 < 10 := Nat.mod_lt n (by decide)
  have t : Nat.toDigits 10 (n / 10) ++ Nat.toDigits 10 (n % 10) = Nat.toDigits 10 (10 * (n / 10) + n % 10) := Nat.toDigits_append_toDigits (by decide) (by omega) hm
  rw [Nat.div_add_mod] at t
  unfold figs
  rw [← t, List.map_append]
  congr 1
  exact figs_lt hm
theorem figs_all (n : Nat) : AllDigits (figs n) := by
  induction n using Nat.strongRecOn with
  | _ n ih =>
    by_cases h : n < 10
    · rw [figs_lt h]
      intro c hc
      rw [List.mem_singleton.mp hc]
      omega
    · rw [figs_ge (by omega)]
      intro c hc
      rcases List.mem_append.mp hc with hc | hc
      · exact ih (n / 10) (by omega) c hc
      · rw [List.mem_singleton.mp hc]
        have := Nat.mod_lt n (show 10 > 0 by decide)
        omega
theorem figs_ne (n : Nat) : figs n ≠ [] := by
  by_cases h : n < 10
  · rw [figs_lt h]; simp
  · rw [figs_ge (by omega)]; simp
theorem figs_head (n : Nat) (h : 0 < n) : ∃ c r, figs n = c :: r ∧ c ≠ 48 := by
  induction n using Nat.strongRecOn with
  | _ n ih =>
    by_cases h2 : n < 10
    · exact ⟨48 + n, [], figs_lt h2, by omega⟩
    · obtain ⟨c, r, e, hc⟩ := ih (n / 10) (by omega) (by omega)
      exact ⟨c, r ++ [48 + n % 10], by rw [figs_ge (by omega), e]; rfl, hc⟩
theorem figs_len : ∀ (k n : Nat), n < 10 ^ (k + 1) → (figs n).length ≤ k + 1
  | 0, n, h => by rw [figs_lt (by simpa using h)]; simp
  | k + 1, n, h => by
    by_cases h2 : n < 10
    · rw [figs_lt h2]; simp
    · rw [figs_ge (by omega), List.length_append, List.length_singleton]
      have := figs_len k (n / 10) (by rw [Nat.pow_succ] at h; omega)
      omega
theorem figs_val (n : Nat) : digitsVal (figs n) = n := KIN.val_back n
def padf : Nat → Nat → List Nat
  | 0, _ => []
  | k + 1, m => padf k (m / 10) ++ [48 + m % 10]
theorem padf_zero : ∀ k, padf k 0 = List.replicate k 48
  | 0 => rfl
  | k + 1 => by
    show padf k 0 ++ [48 + 0 % 10] = _
    rw [padf_zero k, List.replicate_succ']
theorem padf_pad : ∀ (k m : Nat), m < 10 ^ (k + 1) → List.replicate (k + 1 - (figs m).length) 48 ++ figs m = padf (k + 1) m
  | 0, m, h => by
    have h : m < 10 := by simpa using h
    rw [figs_lt h]
    show _ = [] ++ [48 + m % 10]
    rw [Nat.mod_eq_of_lt h]
    rfl
  | k + 1, m, h => by
    show _ = padf (k + 1) (m / 10) ++ [48 + m % 10]
    by_cases h2 : m < 10
    · rw [figs_lt h2, show m / 10 = 0 by omega, padf_zero, Nat.mod_eq_of_lt h2]
      rfl
    · have ih := padf_pad k (m / 10) (by rw [Nat.pow_succ] at h; omega)
      rw [figs_ge (by omega), List.length_append, List.length_singleton, ← ih, show k + 1 + 1 - ((figs (m / 10)).length + 1) = k + 1 - (figs (m / 10)).length by omega, List.append_assoc]
theorem figs_pad : ∀ (k q m : Nat), 0 < q → m < 10 ^ k → figs (q * 10 ^ k + m) = figs q ++ padf k m
  | 0, q, m, hq, h => by
    have : m = 0 := by simpa using h
    subst this
    simp [padf]
  | k + 1, q, m, hq, h => by
    have e : (q * 10 ^ (k + 1) + m) / 10 = q * 10 ^ k + m / 10 := by
      rw [Nat.pow_succ, ← Nat.mul_assoc]
      omega
    have e2 : (q * 10 ^ (k + 1) + m) % 10 = m % 10 := by
      rw [Nat.pow_succ, ← Nat.mul_assoc]
      omega
    have p : 0 < 10 ^ k := Nat.pow_pos (by decide)
    have big : 10 ≤ q * 10 ^ (k + 1) + m := by
      rw [Nat.pow_succ, ← Nat.mul_assoc]
      have : 1 ≤ q * 10 ^ k := Nat.mul_pos hq p
      omega
    rw [figs_ge big, e, e2, figs_pad k q (m / 10) hq (by rw [Nat.pow_succ] at h; omega), List.append_assoc]
    rfl
theorem app_list (a b : Str) : (a ++ b).cps.toList = a.cps.toList ++ b.cps.toList := PySem.W.KT.app_list a b
theorem len_list (a : Str) : a.length = a.cps.toList.length := by
  show a.cps.size = _
  simp
def joinL (s : List Nat) : List (List Nat) → List Nat
  | [] => []
  | [x] => x
  | x :: y :: r => x ++ s ++ joinL s (y :: r)
theorem join_list' (z : Str) : ∀ ys : List Str, (Str.join z ys).cps.toList = joinL z.cps.toList (ys.map (·.cps.toList))
  | [] => rfl
  | [x] => rfl
  | x :: y :: r => by
    show (x ++ z ++ Str.join z (y :: r)).cps.toList = _
    rw [app_list, app_list, join_list' z (y :: r)]
    rfl
theorem split_uniq {c : Nat} : ∀ {a b X Y : List Nat}, c ∉ a → c ∉ b → a ++ c :: X = b ++ c :: Y → a = b ∧ X = Y
  | [], [], X, Y, _, _, e => ⟨rfl, by simpa using e⟩
  | [], b :: bs, X, Y, _, hb, e => by
    have := (List.cons.inj e).1
    exact absurd (by rw [this]; exact .head _) hb
  | a :: as, [], X, Y, ha, _, e => by
    have := (List.cons.inj e).1
    exact absurd (by rw [← this]; exact .head _) ha
  | a :: as, b :: bs, X, Y, ha, hb, e => by
    obtain ⟨e1, e2⟩ := List.cons.inj e
    obtain ⟨h1, h2⟩ := split_uniq (fun h => ha (.tail _ h)) (fun h => hb (.tail _ h)) e2
    exact ⟨by rw [e1, h1], h2⟩
theorem joinL_inj {c : Nat} : ∀ {A B : List (List Nat)}, A ≠ [] → B ≠ [] → (∀ a ∈ A, c ∉ a) → (∀ b ∈ B, c ∉ b) → joinL [c] A = joinL [c] B → A = B
  | [], _, h, _, _, _, _ => absurd rfl h
  | _, [], _, h, _, _, _ => absurd rfl h
  | [a], [b], _, _, _, _, e => by rw [show a = b from e]
  | [a], b :: b' :: r, _, _, ha, _, e => by
    have : c ∈ a := by rw [show a = b ++ [c] ++ joinL [c] (b' :: r) from e]; simp
    exact absurd this (ha a (.head _))
  | a :: a' :: r, [b], _, _, _, hb, e => by
    have : c ∈ b := by rw [← show a ++ [c] ++ joinL [c] (a' :: r) = b from e]; simp
    exact absurd this (hb b (.head _))
  | a :: a' :: r, b :: b' :: r', _, _, ha, hb, e => by
    have e : a ++ [c] ++ joinL [c] (a' :: r) = b ++ [c] ++ joinL [c] (b' :: r') := e
    rw [List.append_assoc, List.append_assoc] at e
    obtain ⟨h1, h2⟩ := split_uniq (ha a (.head _)) (hb b (.head _)) e
    rw [h1, joinL_inj (by simp) (by simp) (fun x hx => ha x (.tail _ hx)) (fun x hx => hb x (.tail _ hx)) h2]
theorem split_join {c : Nat} {ys : List Str} (h : ys ≠ []) (hc : ∀ y ∈ ys, c ∉ y.cps.toList) : Txt.split (Str.join ⟨#[c]⟩ ys) ⟨#[c]⟩ = ys := by
  have e := StrLaws.join_split (Str.join ⟨#[c]⟩ ys) ⟨#[c]⟩
  have f := StrLaws.split_free (Str.join ⟨#[c]⟩ ys) c
  have n := PyProof.Rows.split_pos (Str.join ⟨#[c]⟩ ys) ⟨#[c]⟩
  generalize Txt.split (Str.join ⟨#[c]⟩ ys) ⟨#[c]⟩ = zs at e f n ⊢
  have e' := congrArg (fun s : Str => s.cps.toList) e
  simp only [join_list'] at e'
  have e2 : zs.map (·.cps.toList) = ys.map (·.cps.toList) := joinL_inj (c := c) (by intro z; rw [List.map_eq_nil_iff.mp z] at n; simp at n) (by intro z; exact h (List.map_eq_nil_iff.mp z)) (fun a ha => by obtain ⟨y, hy, rfl⟩ := List.mem_map.mp ha; exact f y hy) (fun a ha => by obtain ⟨y, hy, rfl⟩ := List.mem_map.mp ha; exact hc y hy) e'
  have inj : ∀ {l l' : List Str}, l.map (·.cps.toList) = l'.map (·.cps.toList) → l = l' := by
    intro l
    induction l with
    | nil => intro l' e; cases l' with
      | nil => rfl
      | cons _ _ => cases e
    | cons x l ih =>
      intro l' e
      cases l' with
      | nil => cases e
      | cons y l' =>
        obtain ⟨h1, h2⟩ := List.cons.inj e
        rw [str_ext h1, ih h2]
  exact inj e2
theorem joinL_nil : ∀ l : List (List Nat), joinL [] l = l.flatten
  | [] => rfl
  | [x] => by simp [joinL]
  | x :: y :: r => by
    show x ++ [] ++ joinL [] (y :: r) = _
    rw [joinL_nil (y :: r)]
    simp
theorem zf {m : Nat} (h : m < 10 ^ 18) : (Txt.zfill (FS m) 18).cps.toList = padf 18 m := by
  have hl := figs_len 17 m h
  have e := padf_pad 17 m h
  have ln : (FS m).length = (figs m).length := by rw [len_list]; rfl
  unfold Txt.zfill
  rw [ln]
  by_cases c : (18 : Int) ≤ ((figs m).length : Nat)
  · rw [if_pos c, FS_list, ← e, show 17 + 1 - (figs m).length = 0 by omega]
    rfl
  · rw [if_neg c]
    obtain ⟨d, r, hd⟩ : ∃ d r, figs m = d :: r := by
      cases hh : figs m with
      | nil => exact absurd hh (figs_ne m)
      | cons d r => exact ⟨d, r, rfl⟩
    have dd := figs_all m d (by rw [hd]; exact .head _)
    have e0 : (FS m).cps[0]? = some d := by
      rw [← Array.getElem?_toList, FS_list, hd]; rfl
    unfold PySem.zfilled
    rw [e0]
    split
    · rename_i z; cases z; omega
    · rename_i z; cases z; omega
    · rw [← e]
      unfold Builtin.Str.padded
      simp [FS]
theorem zf_len {m : Nat} (h : m < 10 ^ 18) : (Txt.zfill (FS m) 18).length = 18 := by
  rw [len_list, zf h]
  have : ∀ k m, (padf k m).length = k := by
    intro k
    induction k with
    | zero => intro m; rfl
    | succ k ih => intro m; show (padf k (m / 10) ++ [48 + m % 10]).length = _; rw [List.length_append, ih]; rfl
  exact this 18 m
theorem zf_step {m : Nat} (h : 10 ^ 18 ≤ m) : figs m = figs (m / 10 ^ 18) ++ (Txt.zfill (FS (m % 10 ^ 18)) 18).cps.toList := by
  have h2 : m % 10 ^ 18 < 10 ^ 18 := Nat.mod_lt m (by decide)
  rw [zf h2, ← figs_pad 18 (m / 10 ^ 18) (m % 10 ^ 18) (Nat.div_pos h (by decide)) h2, Nat.div_add_mod']
theorem FS_join {n : Nat} {ps : List Str} {m : Nat} (h : figs n = figs m ++ (ps.reverse.map (·.cps.toList)).flatten) : Str.join "" ((ps ++ [FS m]).reverse) = FS n := by
  refine str_ext ?_
  rw [join_list', FS_list, h, show ("" : Str).cps.toList = [] from rfl, joinL_nil]
  simp [FS_list]
theorem log2_le {m n : Nat} (h : m < 10 ^ n) (h1 : n ≤ 500) (h0 : 0 < n) : ((m : Nat) : Int).natAbs.log2 < 1920 := by
  show m.log2 < 1920
  by_cases z : m = 0
  · subst z; decide
  · refine (Nat.log2_lt z).mpr (Nat.lt_of_lt_of_le h ?_)
    refine Nat.le_trans (Nat.pow_le_pow_right (by decide) h1) ?_
    decide
def vNs (ns : List Nat) : List V := ns.map fun n : Nat => V.int (n : Int)
theorem p4000 : 2 ^ 4000 ≤ 10 ^ (1204 + 1) := by decide
theorem _root_.List.getElem?_map_some {α β : Type} {f : α → β} {l : List α} {i : Nat} {y : β} (h : (l.map f)[i]? = some y) : ∃ x, l[i]? = some x ∧ y = f x := by
  rw [List.getElem?_map] at h
  cases e : l[i]? with
  | none => rw [e] at h; cases h
  | some x => rw [e] at h; exact ⟨x, rfl, (Option.some.inj h).symm⟩
theorem figs_ascii (n : Nat) : ((FS n).cps.all fun x => decide (x < 128)) = true := by
  rw [Array.all_eq_true_iff_forall_mem]
  intro x hx
  have := figs_all n x (by simpa [FS] using hx)
  simp
  omega
theorem int_back (n : Nat) (h : n < 10 ^ 60) : PySem.intText? (FS n) = some (n : Int) := by
  have := intText_digits (x := FS n) (figs_all n) (figs_ne n) (Nat.le_trans (Nat.le_of_eq (len_list _)) (Nat.le_trans (figs_len 59 n h) (by decide)))
  rw [FS_list, figs_val] at this
  exact this
def FigInv (n q : Nat) (t : List Nat) : Prop := (t = [] ∧ q = n) ∨ (t ≠ [] ∧ ((q = 0 ∧ figs n = t) ∨ (0 < q ∧ figs n = figs q ++ t)))
theorem FigInv.step {n q : Nat} {t : List Nat} (h : FigInv n q t) (g : 0 < q ∨ t = []) : FigInv n (q / 10) ((48 + q % 10) :: t) := by
  refine .inr ⟨by simp, ?_⟩
  have key : figs n = figs q ++ t := by
    rcases h with ⟨rfl, rfl⟩ | ⟨h1, ⟨rfl, _⟩ | ⟨_, h3⟩⟩
    · simp
    · rcases g with g | g
      · omega
      · exact absurd g h1
    · exact h3
  by_cases c : q < 10
  · refine .inl ⟨by omega, ?_⟩
    rw [key, figs_lt c, Nat.mod_eq_of_lt c]
    rfl
  · refine .inr ⟨by omega, ?_⟩
    rw [key, figs_ge (by omega)]
    simp
theorem FigInv.done {n q : Nat} {t : List Nat} (h : FigInv n q t) (h1 : q = 0) (h2 : t ≠ []) : t = figs n := by
  rcases h with ⟨h3, _⟩ | ⟨_, ⟨_, h3⟩ | ⟨h4, _⟩⟩
  · exact absurd h3 h2
  · exact h3.symm
  · omega
theorem FigInv.len {n q : Nat} {t : List Nat} (h : FigInv n q t) (nb : n < 2 ^ 4000) : t.length ≤ 1205 := by
  have := figs_len 1204 n (Nat.lt_of_lt_of_le nb p4000)
  rcases h with ⟨rfl, _⟩ | ⟨_, ⟨_, h3⟩ | ⟨_, h3⟩⟩
  · simp
  · rw [← h3]; exact this
  · rw [h3, List.length_append] at this
    omega
theorem ixS {z : Str} {i : Nat} {c : Nat} {H : Hp} {Q : VK} (hz : z.cps.toList.length ≤ 60) (h : z.cps.toList[i]? = some c) (q : Q (.str ⟨#[c]⟩) H) : rIxS (.str z) (.int i) H Q :=
  ⟨z, i, c, rfl, rfl, Nat.le_trans (Nat.le_of_eq (len_list z)) (Nat.le_trans hz (by decide)), atI_nat h, q⟩
theorem tenS : ∀ d : Nat, d < 10 → (Str.ofString "0123456789").cps.toList[d]? = some (48 + d) := by decide +kernel
theorem inTen {c : Nat} (h : 48 ≤ c ∧ c ≤ 57) : (!(Builtin.Str.occurrences (Str.ofString "0123456789") ⟨#[c]⟩ 0 (Str.ofString "0123456789").length 1).isEmpty) = true := by
  rw [StrLaws.found_one, decide_eq_true_eq]
  have := tenS (c - 48) (by omega)
  rw [show 48 + (c - 48) = c by omega] at this
  exact List.mem_of_getElem? this
theorem figs_zero {n : Nat} (h : V.str (FS n) = V.str (Str.ofString "0") → False) : 0 < n := by
  refine Nat.pos_of_ne_zero fun z => h ?_
  subst z
  rfl
theorem joinL_mem {c : Nat} {s : List Nat} : ∀ {l : List (List Nat)}, c ∈ joinL s l → c ∈ s ∨ ∃ x ∈ l, c ∈ x
  | [], h => by cases h
  | [x], h => .inr ⟨x, .head _, h⟩
  | x :: y :: r, h => by
    rcases List.mem_append.mp (show c ∈ (x ++ s) ++ joinL s (y :: r) from h) with h | h
    · rcases List.mem_append.mp h with h | h
      · exact .inr ⟨x, .head _, h⟩
      · exact .inl h
    · rcases joinL_mem h with h | ⟨z, hz, h⟩
      · exact .inl h
      · exact .inr ⟨z, .tail _ hz, h⟩
theorem joinL_len {s : List Nat} {m : Nat} : ∀ {l : List (List Nat)}, (∀ x ∈ l, x.length ≤ m) → (joinL s l).length ≤ (m + s.length) * l.length
  | [], h => by simp [joinL]
  | [x], h => by
    have := h x (.head _)
    show x.length ≤ (m + s.length) * 1
    omega
  | x :: y :: r, h => by
    have h1 := h x (.head _)
    have h2 := joinL_len (s := s) (l := y :: r) fun z hz => h z (.tail _ hz)
    show ((x ++ s) ++ joinL s (y :: r)).length ≤ _
    rw [List.length_append, List.length_append, List.length_cons (a := x), Nat.mul_succ]
    omega
def wds (ns : List Nat) : Str := Str.join " " (ns.map FS)
theorem wds_list (ns : List Nat) : (wds ns).cps.toList = joinL [32] (ns.map figs) := by
  unfold wds
  rw [join_list', List.map_map]
  rfl
theorem wds_len {ns : List Nat} {k : Nat} (h : ∀ n ∈ ns, n < 10 ^ (k + 1)) : (wds ns).length ≤ (k + 2) * ns.length := by
  rw [len_list, wds_list]
  have := joinL_len (s := [32]) (m := k + 1) (l := ns.map figs) fun x hx => by
    obtain ⟨n, hn, rfl⟩ := List.mem_map.mp hx
    exact figs_len k n (h n hn)
  rw [List.length_map] at this
  exact this
theorem pr_getV {β : Type} {R : Addr → β → Prop} : ∀ {as : List Addr} {ss : List β} {i : Nat} {x : V}, Paired R as ss → (as.map V.ref)[i]? = some x → ∃ q r, x = V.ref q ∧ as[i]? = some q ∧ ss[i]? = some r ∧ R q r
  | _, _, i, x, .nil, h => by cases h
  | q :: as, r :: ss, 0, x, .cons e _, h => ⟨q, r, (Option.some.inj h).symm, rfl, rfl, e⟩
  | q :: as, r :: ss, i + 1, x, .cons _ t, h => pr_getV (i := i) t h
theorem wds_ok {ns : List Nat} (nb : ∀ n ∈ ns, n < 2 ^ 4000) (hl : ns.length ≤ 100) : ((ns.map FS).map (·.length)).sum + (ns.map FS).length * (Str.ofString " ").length ≤ 16777216 := by
  rw [List.length_map, List.map_map]
  have : ∀ l : List Nat, (∀ n ∈ l, n < 2 ^ 4000) → (l.map ((fun x : Str => x.length) ∘ FS)).sum ≤ 1205 * l.length := by
    intro l
    induction l with
    | nil => intro _; simp
    | cons n l ih =>
      intro h
      have h1 : (FS n).length ≤ 1205 := by
        rw [len_list]; exact figs_len 1204 n (Nat.lt_of_lt_of_le (h n (.head _)) p4000)
      have h2 := ih fun x hx => h x (.tail _ hx)
      rw [List.map_cons, List.sum_cons, List.length_cons]
      show (FS n).length + _ ≤ _
      omega
  have h3 := this ns nb
  have h4 : (Str.ofString " ").length = 1 := rfl
  rw [h4]
  omega
theorem FS_len {n : Nat} (h : n < 2 ^ 4000) : (FS n).length ≤ 1205 := by
  rw [len_list]; exact figs_len 1204 n (Nat.lt_of_lt_of_le h p4000)
end Pb
set_option Elab.async false
set_option linter.all false
set_option maxRecDepth 100000
namespace L2
open PySem PySem.Spec PyProof.Rows PySem.W
end L2
namespace Pb
open L2 PySem PySem.W NumText
open PySem.StrLaws (At ChainG occ_tight partsBetween_eq partsFrom strSub_toList subAt_eq sub_whole)
section
variable {X : Str} {u c v : Nat}
end
end Pb
set_option Elab.async false
set_option linter.all false
set_option maxRecDepth 100000
namespace L2
open PySem PySem.Spec PyProof.Rows PySem.W
structure WCls (K : PySem.W.Frag) (C : Addr) : Prop where
  ha : PySem.W.findIn K (.ref C) "__class__" = some (some (.builtin "object.__class__"))
  hn : PySem.W.specialIn K (.builtin "object.__class__") "__get__" = some (some (.builtin "getset_descriptor.__get__"))
  ht : PySem.W.takesIn K (.builtin "object.__class__") = some true
  hm : PySem.W.mroIn K C (.type "object") = some true
theorem is_own {K : PySem.W.Frag} {C a dx : Addr} {fs : List (Str × V)} {H : Hp} {Q : VK} (c : Cls K C) (w : WCls K C) (e : H a = some (.ins C dx fs)) (q : Q (.bl true) H) : rIsinst K [V.ref a, V.ref C] H Q := by
  refine ⟨_, _, _, true, rfl, .ins e c w.ha w.hn w.ht w.hm, fun cv h => ?_, q⟩
  cases (show cv = Value.ref C from h)
  unfold PySem.W.kitOne
  simp
end L2
namespace Pb
open L2 PySem PySem.W NumText
def rwt (h : Str) (ns : List Nat) : Str := Str.join " " (h :: ns.map FS)
structure HdOk (h : Str) : Prop where
  len : h.length ≤ 10
  sp : 32 ∉ h.cps.toList
  nl : 10 ∉ h.cps.toList
def hWeb : Str := Str.ofString "web"
def hRoad : Str := Str.ofString "road"
theorem hWeb_ok : HdOk hWeb := ⟨by decide, by decide, by decide⟩
theorem hRoad_ok : HdOk hRoad := ⟨by decide, by decide, by decide⟩
theorem rwt_list (h : Str) (ns : List Nat) : (rwt h ns).cps.toList = joinL [32] (h.cps.toList :: ns.map figs) := by
  unfold rwt
  rw [join_list', List.map_cons, List.map_map]
  rfl
theorem rwt_split {h : Str} (ok : HdOk h) (ns : List Nat) : Txt.split (rwt h ns) (Str.ofString " ") = h :: ns.map FS :=
  split_join (c := 32) (ys := h :: ns.map FS) (by simp) fun y hy hc => by
    rcases List.mem_cons.mp hy with rfl | hy
    · exact ok.sp hc
    · obtain ⟨n, _, rfl⟩ := List.mem_map.mp hy
      have := figs_all n 32 hc
      omega
theorem rwt_nl {h : Str} (ok : HdOk h) (ns : List Nat) : 10 ∉ (rwt h ns).cps.toList := fun hc => by
  rw [rwt_list] at hc
  rcases joinL_mem hc with hc | ⟨x, hx, hc⟩
  · exact absurd (List.mem_singleton.mp hc) (by decide)
  · rcases List.mem_cons.mp hx with rfl | hx
    · exact ok.nl hc
    · obtain ⟨n, _, rfl⟩ := List.mem_map.mp hx
      have := figs_all n 10 hc
      omega
theorem rwt_len {h : Str} (ok : HdOk h) {ns : List Nat} (hn : ∀ n ∈ ns, n < 10 ^ 60) : (rwt h ns).length ≤ 61 * (ns.length + 1) := by
  rw [len_list, rwt_list]
  have := joinL_len (s := [32]) (m := 60) (l := h.cps.toList :: ns.map figs) fun x hx => by
    rcases List.mem_cons.mp hx with rfl | hx
    · have := ok.len
      rw [len_list] at this
      omega
    · obtain ⟨n, h1, rfl⟩ := List.mem_map.mp hx
      exact figs_len 59 n (hn n h1)
  rw [List.length_cons (as := ns.map figs), List.length_map] at this
  exact this
theorem rwt_one (m : Nat) : Str.ofString "web " ++ FS m = rwt hWeb [m] := str_ext (by
  rw [app_list, rwt_list]
  rfl)
theorem rwt_more {n : Nat} {ns : List Nat} : Str.ofString "road " ++ wds (n :: ns) = rwt hRoad (n :: ns) := str_ext (by
  rw [app_list, rwt_list, wds_list]
  rfl)
def rdNs (r : Road) : List Nat := [r.a.toNat, r.b.toNat, r.t.toNat, r.u.toNat]
theorem rd_v {m : Int} {r : Road} (h : RoadOk m r) (hm : m ≤ 24) : vRoad r = vNs (rdNs r) ∧ ∀ n ∈ rdNs r, n < 10 ^ 60 := by
  have h1 := h.a0
  have h2 := h.b0
  have h3 := h.t0
  have h4 := h.u0
  have h5 := h.a1
  have h6 := h.b1
  have h7 := h.t1
  have h8 := h.u1
  constructor
  · unfold vRoad rdNs vNs
    simp only [List.map_cons, List.map_nil]
    rw [Int.toNat_of_nonneg h1, Int.toNat_of_nonneg h2, Int.toNat_of_nonneg (Int.le_trans (by decide) h3), Int.toNat_of_nonneg (Int.le_trans (by decide) h4)]
  · intro n hn
    unfold rdNs at hn
    simp only [List.mem_cons, List.not_mem_nil, or_false] at hn
    rcases hn with rfl | rfl | rfl | rfl <;> omega
def wrow (r : Road) : Str := rwt hRoad (rdNs r)
def wrows (m : Int) (rs : List Road) : List Str := rwt hWeb [m.toNat] :: rs.map wrow
def wbt (m : Int) (rs : List Road) : Str := Str.join (Str.ofString "\n") (wrows m rs)
theorem wbt_rows (m : Int) (rs : List Road) : Txt.split (wbt m rs) (Str.ofString "\n") = wrows m rs :=
  split_join (c := 10) (ys := wrows m rs) (by unfold wrows; simp) fun y hy hc => by
    rcases List.mem_cons.mp hy with rfl | hy
    · exact rwt_nl hWeb_ok _ hc
    · obtain ⟨r, _, rfl⟩ := List.mem_map.mp hy
      exact rwt_nl hRoad_ok _ hc
theorem wrows_len {m : Int} {rs : List Road} (g : Good m rs) : ∀ y ∈ wrows m rs, y.length ≤ 305 := by
  intro y hy
  have := g.m24
  rcases List.mem_cons.mp hy with rfl | hy
  · have := rwt_len hWeb_ok (ns := [m.toNat]) fun n hn => by rw [List.mem_singleton.mp hn]; omega
    have l1 : [m.toNat].length = 1 := rfl
    omega
  · obtain ⟨r, hr, rfl⟩ := List.mem_map.mp hy
    have := rwt_len hRoad_ok (ns := rdNs r) (rd_v (g.ok r hr) g.m24).2
    have l1 : (rdNs r).length = 4 := rfl
    unfold wrow
    omega
theorem wrows_num {m : Int} {rs : List Road} (g : Good m rs) : ((wrows m rs).length : Int) = m := by
  have := g.len
  unfold wrows
  rw [List.length_cons, List.length_map]
  omega
theorem sum_le_mul {k : Nat} : ∀ {l : List Nat}, (∀ x ∈ l, x ≤ k) → l.sum ≤ k * l.length
  | [], _ => by simp
  | x :: l, h => by
    have h1 := h x (.head _)
    have h2 := sum_le_mul fun y hy => h y (.tail _ hy)
    rw [List.sum_cons, List.length_cons, Nat.mul_succ]
    omega
theorem wrows_ok {m : Int} {rs : List Road} (g : Good m rs) : ((wrows m rs).map (·.length)).sum + (wrows m rs).length * (Str.ofString "\n").length ≤ 16777216 := by
  have h1 := sum_le_mul (k := 305) (l := (wrows m rs).map (·.length)) fun x hx => by
    obtain ⟨y, hy, rfl⟩ := List.mem_map.mp hx
    exact wrows_len g y hy
  have h2 := wrows_num g
  have h3 := g.m24
  have h4 : (Str.ofString "\n").length = 1 := rfl
  rw [List.length_map] at h1
  rw [h4]
  omega
theorem wbt_len {m : Int} {rs : List Road} (g : Good m rs) : (wbt m rs).length ≤ 60000 := by
  unfold wbt
  rw [len_list, join_list']
  have := joinL_len (s := (Str.ofString "\n").cps.toList) (m := 305) (l := (wrows m rs).map (·.cps.toList)) fun x hx => by
    obtain ⟨y, hy, rfl⟩ := List.mem_map.mp hx
    rw [← len_list]
    exact wrows_len g y hy
  have h2 := wrows_num g
  have h3 := g.m24
  rw [List.length_map] at this
  rw [show (Str.ofString "\n").cps.toList.length = 1 from rfl] at this
  omega
theorem pr_nth {β : Type} {R : Addr → β → Prop} {as : List Addr} {ss : List β} (h : Paired R as ss) {i : Nat} (hi : i < ss.length) : ∃ q r, atI (as.map V.ref) (0 + (i : Int)) = some (V.ref q) ∧ ss[i]? = some r ∧ R q r := by
  have hl : i < as.length := by rw [Paired.length h]; exact hi
  have e : (as.map V.ref)[i]? = some (V.ref as[i]) := by rw [List.getElem?_map, List.getElem?_eq_getElem hl]; rfl
  obtain ⟨q, r, h1, h2, h3, h4⟩ := pr_getV h e
  rw [Int.zero_add]
  exact ⟨q, r, atI_int (Int.natCast_nonneg i) (by rw [Int.toNat_natCast, e, h1]), h3, h4⟩
theorem tups_roads {H : Hp} : ∀ {ps : List Addr} {rs : List Road}, RoadsAt H ps rs → TupsAt H ps (rs.map fun r => [r.a, r.b, r.t, r.u])
  | _, _, .nil => .nil
  | _, _, .cons x xs => .cons x (tups_roads xs)
theorem eq_roads {K : PySem.W.Frag} {H : Hp} {t t' : Addr} {ps qs : List Addr} {rs : List Road} {Q : VK} (h : H t = some (.tup (ps.map V.ref))) (h' : H t' = some (.tup (qs.map V.ref))) (r : RoadsAt H ps rs) (r' : RoadsAt H qs rs) (q : Q (.bl true) H) : rEqD K (.ref t) (.ref t') H Q := by
  refine ⟨_, _, .tup (SqT.of h) (deep_tups (tups_roads r)), .tup (SqT.of h') (deep_tups (tups_roads r')), ?_, ?_⟩
  · have := depth_tups (rs.map fun r => [r.a, r.b, r.t, r.u])
    simp only [PyData.depth]
    omega
  · simp only [PyData.eqv]
    rw [eqv_tups]
    exact q
end Pb
set_option Elab.async false
set_option linter.all false
set_option maxRecDepth 100000
set_option maxHeartbeats 4000000
namespace Pk
open PySem L2 Pb
seal L2.PSs L2.PS L2.PE L2.PT L2.PW L2.PA L2.PG L2.PGs L2.PI L2.PTs L2.PC L2.PPs L2.PO
def top (i : Nat) : Stmt := PySem.Challenge.pw_pebbletoll_k57_whole_webs_as_texts.main.body.getD i (.Pass ⟨0, 0, 0, 0⟩)
local macro_rules | `(tactic| walk_at "rd") => `(tactic| ((try dsimp only [tYes, tIsN, tNotN, Ends.less, tRaise_eq, tTry_eq, tHand_eq, tFor_eq, tForD, iStr, tJoinR, tComp_eq', iTup, iList, iAny, iRng1, iRng2, iRng3, iEnum, iRev, iZip, cxOf_K, tNever_eq, tListR, tRet, tRetN, tSeq, tNext, tAsg, gName, gTup, gCons, gNil, gSub, tPar3, tAugS, tAug, tMinD, tNotT, ipI, tIfS, tDrop, tTest, tB, tChain, tC, tVar, tOp, tUn, rI0, rI, rU, rEq, rNe, tCall, tMake, tCons, tNil, tTup, tLst, tCB, tBM, tBM0, tFld, sFld, tDIn, tDInN, tDNotIn, sDPut, tDGet, tDisp, tDispT, tPairs, tDNewK, tDNewT, tAnd, tOr, tNot, tAndV, tOrV, tNotV, tIf, List.nil_append, List.append_nil, List.set_cons_zero, List.set_cons_succ, List.getElem?_cons_zero, List.getElem?_cons_succ]); (try simp only [tYes, tIsN, tNotN, Ends.less, tRaise_eq, tTry_eq, tHand_eq, tFor_eq, tForD, iStr, tJoinR, tComp_eq', iTup, iList, iAny, iRng1, iRng2, iRng3, iEnum, iRev, iZip, cxOf_K, tNever_eq, tListR, tRet, tRetN, tSeq, tNext, tAsg, gName, gTup, gCons, gNil, gSub, tPar3, tAugS, tAug, tMinD, tNotT, ipI, tIfS, tDrop, tTest, tB, tChain, tC, tVar, tOp, tUn, rI0, rI, rU, rEq, rNe, scal_ii, scal_bb, scal_in, scal_ni, scal_nn, scal_ss, tCall, tMake, tCons, tNil, tTup, tLst, tCB, tBM, tBM0, tFld, sFld, tDIn, tDInN, tDNotIn, sDPut, tDGet, tDisp, tDispT, tPairs, tDNewK, tDNewT, tAnd, tOr, tNot, tAndV, tOrV, tNotV, tIf, List.nil_append, List.append_nil, List.set_cons_zero, List.set_cons_succ, List.getElem?_cons_zero, List.getElem?_cons_succ, Option.some.injEq, V.int.injEq, V.bl.injEq, V.ref.injEq, List.cons.injEq, exists_eq_left, exists_eq_left', exists_and_left, exists_const, and_true, true_and, decide_eq_true_eq, Bool.not_eq_true', decide_eq_false_iff_not, Bool.true_eq_false, Bool.false_eq_true, if_true, if_false])))
set_option genSizeOf false in
set_option genInjectivity false in
structure Txt (K : PySem.W.Frag) (mg : Str → Option Value) where
  BadWeb : Addr
  m_BadWeb : mg "BadWeb" = some (.ref BadWeb)
  BadText : Addr
  m_BadText : mg "BadText" = some (.ref BadText)
  Web : Addr
  m_Web : mg "Web" = some (.ref Web)
  range : mg "range" = none
  len : mg "len" = none
  isinstance : mg "isinstance" = none
  all : mg "all" = none
  int : mg "int" = none
  bool : mg "bool" = none
  tuple : mg "tuple" = none
  list : mg "list" = none
  reversed : mg "reversed" = none
  sum : mg "sum" = none
  str : mg "str" = none
  c_MOST_PLACES : ∃ t, mg "MOST_PLACES" = some (.int 24 t)
  c_LEAST_TOLL : ∃ t, mg "LEAST_TOLL" = some (.int 2 t)
  c_MOST_TOLL : ∃ t, mg "MOST_TOLL" = some (.int 1000000 t)
  c_FIGURES : ∃ t, mg "FIGURES" = some (.str "0123456789" t)
  c_MOST_FIGURES : ∃ t, mg "MOST_FIGURES" = some (.int 60 t)
  c_PIECE : ∃ t, mg "PIECE" = some (.int 1000000000000000000 t)
  c_PIECE_FIGURES : ∃ t, mg "PIECE_FIGURES" = some (.int 18 t)
  cl_Web : Cls K Web
  n_many : NoAttr K Web "many"
  n_roads : NoAttr K Web "roads"
  iw_Web : WCls K Web
section
variable {P : Program} {w : World} {K : PySem.W.Frag} {mg : Str → Option Value} {base : Heap} {CX : CXT}
/-! #### check_counts -/
def sp_check_counts (T : Txt K mg) : Sp := fun vs H Q _ => ∃ (m : Int) (t : Addr) (xs : List V), vs = [.int m, .ref t] ∧ SqT K H t xs ∧ 1 ≤ m ∧ m ≤ 24 ∧ (xs.length : Int) = m - 1 ∧ Q .non H
abbrev s_check_counts : Stmt := top 10
theorem sc_check_counts : FnScope ["many", "roads"] ["many", "roads"] (defScope s_check_counts) := FnScope.of (by kernel_rfl)
theorem n_check_counts__many : NmL (defScope s_check_counts) "many" := .of (by kernel_rfl)
theorem n_check_counts__roads : NmL (defScope s_check_counts) "roads" := .of (by kernel_rfl)
theorem n_check_counts__MOST_PLACES : NmG (defScope s_check_counts) "MOST_PLACES" := .of (by kernel_rfl)
theorem n_check_counts__BadWeb : NmG (defScope s_check_counts) "BadWeb" := .of (by kernel_rfl)
theorem n_check_counts__len : NmG (defScope s_check_counts) "len" := .of (by kernel_rfl)

theorem ok_check_counts (T : Txt K mg) (hq : Quiet CX) {f : Addr} {fd : FuncData} (D : Df K mg "check_counts" s_check_counts ["many", "roads"] f fd) : FnOk P w K mg base CX 1 f fd ["many", "roads"] (sp_check_counts T) := by
  refine D.F.okC sc_check_counts (fun vs H Q E h => ?_) (fun cdv A outer s H vs Q E hr h => ?_)
  · obtain ⟨m, t, xs, rfl, _⟩ := h
    rfl
  · obtain ⟨m, t, xs, rfl, ht, h1, h2, hl, k⟩ := h
    refine ⟨_, (pss_cons (ps_if (pt_not (pt_chain op_le op_le pe_int (pvl 0 n_check_counts__many) (pe_globI n_check_counts__MOST_PLACES.g T.c_MOST_PLACES (hd := n_check_counts__MOST_PLACES.d)))) (pss_one ps_never) pss_nil) (pss_one (ps_if (pt_cmpR op_ne (pe_callB call_len_seq n_check_counts__len.g T.len pb_len (pa_cons (pvl 1 n_check_counts__roads) pa_nil) (hn := n_check_counts__len.n) (hdb := n_check_counts__len.d)) (pe_op op_sub (pvl 0 n_check_counts__many) pe_int) (nomark _)) (pss_one ps_never) pss_nil))), ?_⟩
    rw [show L2.start ["many", "roads"] [V.int m, V.ref t] = [some (V.int m), some (V.ref t)] from rfl]
    walk_at "rd"
    rw [if_pos h1, if_neg (by omega)]
    exact ⟨xs, .inr ht, by rw [if_neg (by omega)]; exact k⟩
/-! #### is_place -/
def sp_is_place (T : Txt K mg) : Sp := fun vs H Q _ => ∃ m n : Int, vs = [.int m, .int n] ∧ Q (.bl (decide (0 ≤ n) && decide (n < m))) H
abbrev s_is_place : Stmt := top 9
theorem sc_is_place : FnScope ["many", "number"] ["many", "number"] (defScope s_is_place) := FnScope.of (by kernel_rfl)
theorem n_is_place__many : NmL (defScope s_is_place) "many" := .of (by kernel_rfl)
theorem n_is_place__number : NmL (defScope s_is_place) "number" := .of (by kernel_rfl)

theorem ok_is_place (T : Txt K mg) (hq : Quiet CX) {f : Addr} {fd : FuncData} (D : Df K mg "is_place" s_is_place ["many", "number"] f fd) : FnOk P w K mg base CX 1 f fd ["many", "number"] (sp_is_place T) := by
  refine D.F.okC sc_is_place (fun vs H Q E h => ?_) (fun cdv A outer s H vs Q E hr h => ?_)
  · obtain ⟨m, n, rfl, _⟩ := h
    rfl
  · obtain ⟨m, n, rfl, k⟩ := h
    refine ⟨_, (pss_one (ps_ret (pe_chain op_le op_lt pe_int (pvl 1 n_is_place__number) (pvl 0 n_is_place__many)))), ?_⟩
    rw [show L2.start ["many", "number"] [V.int m, V.int n] = [some (V.int m), some (V.int n)] from rfl]
    walk_at "rd"
    by_cases c : 0 ≤ n
    · simpa [c] using k
    · simpa [c] using k
/-! #### check_ends -/
def sp_check_ends (T : Txt K mg) : Sp := fun vs H Q _ => ∃ (m : Int) (p : Addr) (r : Road), vs = [.int m, .ref p] ∧ H p = some (.tup (vRoad r)) ∧ 0 ≤ r.a ∧ r.a < m ∧ 0 ≤ r.b ∧ r.b < m ∧ r.a ≠ r.b ∧ Q .non H
abbrev s_check_ends : Stmt := top 11
theorem sc_check_ends : FnScope ["many", "road"] ["many", "road"] (defScope s_check_ends) := FnScope.of (by kernel_rfl)
theorem n_check_ends__many : NmL (defScope s_check_ends) "many" := .of (by kernel_rfl)
theorem n_check_ends__road : NmL (defScope s_check_ends) "road" := .of (by kernel_rfl)
theorem n_check_ends__is_place : NmG (defScope s_check_ends) "is_place" := .of (by kernel_rfl)
theorem n_check_ends__BadWeb : NmG (defScope s_check_ends) "BadWeb" := .of (by kernel_rfl)

theorem ok_check_ends (T : Txt K mg) (hq : Quiet CX) {f : Addr} {fd : FuncData} (D : Df K mg "check_ends" s_check_ends ["many", "road"] f fd) {f_is_place : Addr} {fd_is_place : FuncData} (D_is_place : Df K mg "is_place" s_is_place ["many", "number"] f_is_place fd_is_place) (G_is_place : FnOk P w K mg base CX 1 f_is_place fd_is_place ["many", "number"] (sp_is_place T)) : FnOk P w K mg base CX 2 f fd ["many", "road"] (sp_check_ends T) := by
  refine D.F.okC sc_check_ends (fun vs H Q E h => ?_) (fun cdv A outer s H vs Q E hr h => ?_)
  · obtain ⟨m, p, r, rfl, _⟩ := h
    rfl
  · obtain ⟨m, p, r, rfl, hp, a0, a1, b0, b1, ne, k⟩ := h
    refine ⟨_, (pss_cons (ps_if (PW.pt (pw_or (pt_not (pt_val (pe_call G_is_place (hr.mono (by decide)) n_check_ends__is_place.g D_is_place.m D_is_place.F.kp D_is_place.b .nil (passQ hq) (pa_cons (pvl 0 n_check_ends__many) (pa_cons (pe_ix ix_tup (pvl 1 n_check_ends__road) pe_int (fun _ _ => rfl)) pa_nil)) (hdb := n_check_ends__is_place.d)))) (pw_or1 (pt_not (pt_val (pe_call G_is_place (hr.mono (by decide)) n_check_ends__is_place.g D_is_place.m D_is_place.F.kp D_is_place.b .nil (passQ hq) (pa_cons (pvl 0 n_check_ends__many) (pa_cons (pe_ix ix_tup (pvl 1 n_check_ends__road) pe_int (fun _ _ => rfl)) pa_nil)) (hdb := n_check_ends__is_place.d))))))) (pss_one ps_never) pss_nil) (pss_one (ps_if (pt_cmpR op_eq (pe_ix ix_tup (pvl 1 n_check_ends__road) pe_int (fun _ _ => rfl)) (pe_ix ix_tup (pvl 1 n_check_ends__road) pe_int (fun _ _ => rfl)) (nomark _)) (pss_one ps_never) pss_nil))), ?_⟩
    rw [show L2.start ["many", "road"] [V.int m, V.ref p] = [some (V.int m), some (V.ref p)] from rfl]
    walk_at "rd"
    refine ixT hp rfl ⟨m, r.a, rfl, _, rfl, ?_⟩
    rw [if_neg (by simp [a0, a1])]
    refine ixT hp rfl ⟨m, r.b, rfl, _, rfl, ?_⟩
    rw [if_neg (by simp [b0, b1])]
    refine ixT hp rfl (ixT hp rfl ⟨rfl, ?_⟩)
    rw [if_neg (by simpa using ne)]
    exact k
/-! #### other_ends -/
def sp_other_ends (T : Txt K mg) : Sp := fun vs H Q _ => ∃ (t : Addr) (ps : List Addr) (rs : List Road) (n : Int), vs = [.ref t, .int n] ∧ SqT K H t (ps.map V.ref) ∧ RoadsAt H ps rs ∧ rs.length ≤ 1000 ∧
  ∀ l H', H l = none → Same H H' → H' l = some (.lst ((ends rs n).map V.int)) → Q (.ref l) H'
abbrev s_other_ends : Stmt := top 14
theorem sc_other_ends : FnScope ["roads", "place", "ends", "road"] ["roads", "place"] (defScope s_other_ends) := FnScope.of (by kernel_rfl)
theorem n_other_ends__roads : NmL (defScope s_other_ends) "roads" := .of (by kernel_rfl)
theorem n_other_ends__place : NmL (defScope s_other_ends) "place" := .of (by kernel_rfl)
theorem n_other_ends__ends : NmL (defScope s_other_ends) "ends" := .of (by kernel_rfl)
theorem n_other_ends__road : NmL (defScope s_other_ends) "road" := .of (by kernel_rfl)

theorem ok_other_ends (T : Txt K mg) (hq : Quiet CX) {f : Addr} {fd : FuncData} (D : Df K mg "other_ends" s_other_ends ["roads", "place"] f fd) : FnOk P w K mg base CX 1 f fd ["roads", "place"] (sp_other_ends T) := by
  refine D.F.okC sc_other_ends (fun vs H Q E h => ?_) (fun cdv A outer s H vs Q E hr h => ?_)
  · obtain ⟨t, ps, rs, n, rfl, _⟩ := h
    rfl
  · obtain ⟨t, ps, rs, n, rfl, ht, hp, hl, k⟩ := h
    refine ⟨_, (pss_cons (ps_set (i := 2) sc_other_ends.nd rfl (Or.inl n_other_ends__ends.l) (pe_lst pa_nil)) (pss_cons (ps_for PassesOwn.never rfl (pi_tup (pvl 0 n_other_ends__roads)) (pg_name (i := 3) sc_other_ends.nd rfl (Or.inl n_other_ends__road.l)) (pss_cons (ps_if (pt_cmpR op_eq (pe_ix ix_tup (pvl 3 n_other_ends__road) pe_int (fun _ _ => rfl)) (pvl 1 n_other_ends__place) (nomark _)) (pss_one (ps_expr (pe_bm PySem.F.plainAttrs_list PySem.F.slot_list_append PySem.F.type_list_append mt_append (pvl 2 n_other_ends__ends) (pa_cons (pe_ix ix_tup (pvl 3 n_other_ends__road) pe_int (fun _ _ => rfl)) pa_nil)))) pss_nil) (pss_one (ps_if (pt_cmpR op_eq (pe_ix ix_tup (pvl 3 n_other_ends__road) pe_int (fun _ _ => rfl)) (pvl 1 n_other_ends__place) (nomark _)) (pss_one (ps_expr (pe_bm PySem.F.plainAttrs_list PySem.F.slot_list_append PySem.F.type_list_append mt_append (pvl 2 n_other_ends__ends) (pa_cons (pe_ix ix_tup (pvl 3 n_other_ends__road) pe_int (fun _ _ => rfl)) pa_nil)))) pss_nil)))) (pss_one (ps_ret (pvl 2 n_other_ends__ends))))), ?_⟩
    rw [show L2.start ["roads", "place", "ends", "road"] [V.ref t, V.int n] = [some (V.ref t), some (V.int n), none, none] from rfl]
    walk_at "rd"
    refine ⟨by decide, fun l hn => ?_⟩
    have hlen : ps.length = rs.length := Paired.length hp
    refine ⟨⟨_, Same.tup (Same.new _ hn) ht⟩, for_tup (xs := ps.map V.ref) (fun i σ H2 => H2 = upd H l (.lst ((ends (rs.take i) n).map V.int)) ∧ ∃ v, σ = [some (.ref t), some (.int n), some (.ref l), v]) ⟨rfl, _, rfl⟩ (fun i σ H2 _ z => by rw [z.1]; exact Same.tup (Same.new _ hn) ht) ?_ ?_⟩
    · rintro i x σ H2 hi ⟨rfl, v, rfl⟩
      obtain ⟨p, r, rfl, h1, h2, h3⟩ := hp.get hi
      have np : p ≠ l := ne_of_none h3 hn
      have hil : i < rs.length := (List.getElem?_eq_some_iff.mp h2).1
      have et : rs.take (i + 1) = rs.take i ++ [r] := by rw [List.take_succ, h2]; rfl
      have hb : (ends (rs.take i) n).length ≤ 2000 := Nat.le_trans (ends_len _ _) (by rw [List.length_take]; omega)
      have hx : ∀ o, upd H l o p = some (.tup (vRoad r)) := fun o => by rw [upd_ne np]; exact h3
      walk_at "rd"
      refine ixT (hx _) rfl ?_
      walk_at "rd"
      have fin : ∀ (ys : List Int), (ends (rs.take i) n ++ ys) = ends (rs.take (i + 1)) n → upd H l (.lst ((ends (rs.take i) n).map V.int ++ ys.map V.int)) = upd H l (.lst ((ends (rs.take (i + 1)) n).map V.int)) := fun ys e => by
        rw [← List.map_append, e]
      have e1 : ends1 n r = (if r.a = n then [r.b] else []) ++ (if r.b = n then [r.a] else []) := rfl
      by_cases ca : r.a = n
      · rw [if_pos ca]
        refine ⟨tyL upd_same, ixT (hx _) rfl (appR upd_same (small (by rw [List.length_map]; omega)) ?_)⟩
        rw [upd_upd]
        refine ixT (hx _) rfl ?_
        walk_at "rd"
        by_cases cb : r.b = n
        · rw [if_pos cb]
          refine ⟨tyL upd_same, ixT (hx _) rfl (appR upd_same (small (by rw [List.length_append, List.length_map]; simp; omega)) ?_)⟩
          rw [upd_upd, List.append_assoc]
          exact ⟨fin [r.b, r.a] (by rw [et, ends_snoc, e1, if_pos ca, if_pos cb]; rfl), _, rfl⟩
        · rw [if_neg cb]
          exact ⟨fin [r.b] (by rw [et, ends_snoc, e1, if_pos ca, if_neg cb]; rfl), _, rfl⟩
      · rw [if_neg ca]
        refine ixT (hx _) rfl ?_
        walk_at "rd"
        by_cases cb : r.b = n
        · rw [if_pos cb]
          refine ⟨tyL upd_same, ixT (hx _) rfl (appR upd_same (small (by rw [List.length_map]; omega)) ?_)⟩
          rw [upd_upd]
          exact ⟨fin [r.a] (by rw [et, ends_snoc, e1, if_neg ca, if_pos cb]; rfl), _, rfl⟩
        · rw [if_neg cb]
          have := fin [] (by rw [et, ends_snoc, e1, if_neg ca, if_neg cb]; rfl)
          rw [List.map_nil, List.append_nil] at this
          exact ⟨this, _, rfl⟩
    · rintro σ H2 ⟨rfl, v, rfl⟩
      rw [List.length_map, hlen, List.take_length]
      exact ⟨_, rfl, k l _ hn (Same.new _ hn) upd_same⟩
/-! #### check_joined -/
def kvsOf (ks : List Int) : List (Key × V) := ks.map fun k => ((Sum.inl k : Key), V.bl true)
theorem kvsOf_len (ks : List Int) : (kvsOf ks).length = ks.length := by unfold kvsOf; rw [List.length_map]
theorem valV_kvs (ks : List Int) (e : Int) : valV (kvsOf ks) (Sum.inl e : Key) = if e ∈ ks then some (V.bl true) else none := by
  unfold kvsOf
  induction ks with
  | nil => rfl
  | cons k ks ih =>
    rw [List.map_cons]
    by_cases c : k = e
    · rw [valV_pos (by rw [c]), if_pos (by rw [c]; exact List.mem_cons_self)]
    · rw [valV_neg (fun z => c (Sum.inl.inj z)), ih]
      by_cases d : e ∈ ks
      · rw [if_pos d, if_pos (List.mem_cons_of_mem _ d)]
      · rw [if_neg d, if_neg (fun z => by rcases List.mem_cons.mp z with z | z; exact c z.symm; exact d z)]
theorem putK_kvs {ks : List Int} {e : Int} (h : e ∉ ks) : putK (kvsOf ks) (Sum.inl e : Key) (V.bl true) = kvsOf (ks ++ [e]) := by
  rw [putK_new _ (by rw [valV_kvs, if_neg h])]
  unfold kvsOf
  rw [List.map_append]
  rfl
def sp_check_joined (T : Txt K mg) : Sp := fun vs H Q _ => ∃ (m : Int) (t : Addr) (ps : List Addr) (rs : List Road), vs = [.int m, .ref t] ∧ SqT K H t (ps.map V.ref) ∧ RoadsAt H ps rs ∧ Good m rs ∧ ∀ H', Same H H' → Q .non H'
abbrev s_check_joined : Stmt := top 13
theorem sc_check_joined : FnScope ["many", "roads", "reached", "waiting", "place", "end"] ["many", "roads"] (defScope s_check_joined) := FnScope.of (by kernel_rfl)
theorem n_check_joined__many : NmL (defScope s_check_joined) "many" := .of (by kernel_rfl)
theorem n_check_joined__roads : NmL (defScope s_check_joined) "roads" := .of (by kernel_rfl)
theorem n_check_joined__reached : NmL (defScope s_check_joined) "reached" := .of (by kernel_rfl)
theorem n_check_joined__waiting : NmL (defScope s_check_joined) "waiting" := .of (by kernel_rfl)
theorem n_check_joined__place : NmL (defScope s_check_joined) "place" := .of (by kernel_rfl)
theorem n_check_joined__end : NmL (defScope s_check_joined) "end" := .of (by kernel_rfl)
theorem n_check_joined__other_ends : NmG (defScope s_check_joined) "other_ends" := .of (by kernel_rfl)
theorem n_check_joined__len : NmG (defScope s_check_joined) "len" := .of (by kernel_rfl)
theorem n_check_joined__BadWeb : NmG (defScope s_check_joined) "BadWeb" := .of (by kernel_rfl)

theorem ok_check_joined (T : Txt K mg) (hq : Quiet CX) {f : Addr} {fd : FuncData} (D : Df K mg "check_joined" s_check_joined ["many", "roads"] f fd) {f_other_ends : Addr} {fd_other_ends : FuncData} (D_other_ends : Df K mg "other_ends" s_other_ends ["roads", "place"] f_other_ends fd_other_ends) (G_other_ends : FnOk P w K mg base CX 1 f_other_ends fd_other_ends ["roads", "place"] (sp_other_ends T)) : FnOk P w K mg base CX 2 f fd ["many", "roads"] (sp_check_joined T) := by
  refine D.F.okC sc_check_joined (fun vs H Q E h => ?_) (fun cdv A outer s H vs Q E hr h => ?_)
  · obtain ⟨m, t, ps, rs, rfl, _⟩ := h
    rfl
  · obtain ⟨m, t, ps, rs, rfl, ht, hp, g, k⟩ := h
    have hu := hu_of hr
    refine ⟨_, (pss_cons (ps_set (i := 2) sc_check_joined.nd rfl (Or.inl n_check_joined__reached.l) (pe_disp (pps_cons pe_int pe_bl pps_nil) rfl rfl (List.cons_ne_nil _ _) (by decide))) (pss_cons (ps_set (i := 3) sc_check_joined.nd rfl (Or.inl n_check_joined__waiting.l) (pe_lst (pa_cons pe_int pa_nil))) (pss_cons (ps_while PassesOwn.never (pt_truth (pvl 3 n_check_joined__waiting) (fun _ => rfl)) (pss_cons (ps_set (i := 4) sc_check_joined.nd rfl (Or.inl n_check_joined__place.l) (pe_bm0 PySem.F.plainAttrs_list PySem.F.slot_list_pop PySem.F.type_list_pop mt_pop (pvl 3 n_check_joined__waiting))) (pss_one (ps_for PassesOwn.never rfl (pi_list (pe_call G_other_ends (hr.mono (by decide)) n_check_joined__other_ends.g D_other_ends.m D_other_ends.F.kp D_other_ends.b .nil (passQ hq) (pa_cons (pvl 1 n_check_joined__roads) (pa_cons (pvl 4 n_check_joined__place) pa_nil)) (hdb := n_check_joined__other_ends.d))) (pg_name (i := 5) sc_check_joined.nd rfl (Or.inl n_check_joined__end.l)) (pss_one (ps_if (pt_cmp (pc_dnotin hu (pvl 5 n_check_joined__end) (pvl 2 n_check_joined__reached))) (pss_cons (ps_dput hu (pvl 2 n_check_joined__reached) (pvl 5 n_check_joined__end) pe_bl rfl) (pss_one (ps_expr (pe_bm PySem.F.plainAttrs_list PySem.F.slot_list_append PySem.F.type_list_append mt_append (pvl 3 n_check_joined__waiting) (pa_cons (pvl 5 n_check_joined__end) pa_nil))))) pss_nil)))))) (pss_one (ps_if (pt_cmpR op_ne (pe_callB call_lenD n_check_joined__len.g T.len pb_len (pa_cons (pvl 2 n_check_joined__reached) pa_nil) (hn := n_check_joined__len.n) (hdb := n_check_joined__len.d)) (pvl 0 n_check_joined__many) (nomark _)) (pss_one ps_never) pss_nil))))), ?_⟩
    rw [show L2.start ["many", "roads", "reached", "waiting", "place", "end"] [V.int m, V.ref t] = [some (V.int m), some (V.ref t), none, none, none, none] from rfl]
    have m1 := g.m1
    have m24 := g.m24
    have glen := g.len
    walk_at "rd"
    intro d hd
    refine ⟨upd_same, [(Sum.inl 0, .bl true)], rfl, by decide, ?_⟩
    rw [upd_upd]
    refine ⟨by decide, fun w0 hw => ?_⟩
    have ed : mergeK [] [((Sum.inl 0 : Key), V.bl true)] = kvsOf [0] := rfl
    rw [ed]
    have ndw : w0 ≠ d := fun z => by rw [z, upd_same] at hw; cases hw
    have hw0 : H w0 = none := by rw [upd_ne ndw] at hw; exact hw
    refine while_n (fun n σ H2 => ∃ (ks ws : List Int) (v4 v5 : Option V), n = 2 * (m.toNat - ks.length) + ws.length ∧ σ = [some (.int m), some (.ref t), some (.ref d), some (.ref w0), v4, v5] ∧ Same H H2 ∧ H2 d = some (.dK (kvsOf ks)) ∧ H2 w0 = some (.lst (ws.map V.int)) ∧ JInv m rs ks ws) _ ⟨[0], [0], none, none, rfl, rfl, ?_, ?_, upd_same, JInv.start m1⟩ ?_
    · exact Same.trans (Same.new _ hd) (Same.new _ hw)
    · rw [upd_ne ndw.symm, upd_same]
    rintro n σ H2 NW hN hN2 ⟨ks, ws, v4, v5, rfl, rfl, sm, h1, h2, J⟩
    have kl := nodup_len (by omega) J.nd J.rng
    refine ⟨_, rfl, !(ws.map V.int).isEmpty, .inl ⟨_, SqL.of h2, rfl⟩, ?_⟩
    rcases List.eq_nil_or_concat ws with rfl | ⟨ws', p, rfl⟩
    · -- nothing waits: all places have been reached
      have full := J.all m1 g.jn
      refine iteF ?_
      walk_at "rd"
      refine ⟨kvsOf ks, h1, ?_⟩
      rw [kvsOf_len, if_neg (by omega)]
      exact k _ sm
    · rw [List.concat_eq_append] at J h2 hN hN2 ⊢
      have e1 : (!(List.map V.int (ws' ++ [p])).isEmpty) = true := by simp
      rw [e1]
      refine iteT ⟨NW, hN2, ?_⟩
      walk_at "rd"
      rw [List.map_append, List.map_cons, List.map_nil] at h2
      refine ⟨tyL h2, popR h2 ?_⟩
      have ndw' : d ≠ w0 := ndw.symm
      have sm2 : Same H (upd H2 w0 (.lst (ws'.map V.int))) := fun b o e => by rw [upd_ne (ne_of_none e hw0)]; exact sm b o e
      refine ⟨t, ps, rs, p, rfl, Same.tup sm2 ht, RoadsAt.same sm2 hp, by omega, fun l H3 hn s3 hl => ?_⟩
      have nlw : w0 ≠ l := ne_of_none (o := .lst (ws'.map V.int)) upd_same hn
      have nld : d ≠ l := ne_of_none (o := .dK (kvsOf ks)) (by rw [upd_ne ndw']; exact h1) hn
      have hl0 : H l = none := sm2.free hn
      refine ⟨l, rfl, ⟨_, SqL.of hl⟩, for_listN (K := K) (xs := (ends rs p).map V.int) (fun i σ H4 => ∃ (v5 : Option V), σ = [some (.int m), some (.ref t), some (.ref d), some (.ref w0), some (.int p), v5] ∧ Same H H4 ∧ H4 l = some (.lst ((ends rs p).map V.int)) ∧
        ∃ ks4 ws4 : List Int, H4 d = some (.dK (kvsOf ks4)) ∧ H4 w0 = some (.lst (ws4.map V.int)) ∧ JMid m rs p ((ends rs p).take i) ks4 ws4 ks ws'.length) ?_ (fun i σ H4 _ z => by obtain ⟨_, _, _, z, _⟩ := z; exact SqL.of z) ?_ ?_⟩
      · refine ⟨_, rfl, sm2.trans s3, hl, ks, ws', ?_, ?_, ?_⟩
        · exact s3 _ _ (by rw [upd_ne ndw']; exact h1)
        · exact s3 _ _ upd_same
        · rw [List.take_zero]; exact JMid.start J
      · rintro i x σ H4 NI hI hi ⟨v5, rfl, s4, hl4, ks4, ws4, hd4, hw4, M⟩
        rw [List.getElem?_map] at hi
        obtain ⟨e, he, rfl⟩ : ∃ e, (ends rs p)[i]? = some e ∧ V.int e = x := by
          cases q : (ends rs p)[i]? with
          | none => rw [q] at hi; cases hi
          | some e => rw [q] at hi; exact ⟨e, rfl, Option.some.inj hi⟩
        have er := ends_rng g.ok (List.mem_of_getElem? he)
        have et : (ends rs p).take (i + 1) = (ends rs p).take i ++ [e] := by rw [List.take_succ, he]; rfl
        have st := M.step er.1 er.2
        have k4 := nodup_len (by omega) M.nd M.rng
        have mu4 := M.mu
        walk_at "rd"
        refine ⟨_, DGet.k (k := Sum.inl e) hd4, ?_⟩
        rw [valV_kvs]
        by_cases c : e ∈ ks4
        · rw [if_pos c]
          rw [if_neg (by simp)]
          refine hI _ _ ⟨_, rfl, s4, hl4, ks4, ws4, hd4, hw4, ?_⟩
          rw [et]
          unfold jstep at st
          rw [if_pos c] at st
          exact st
        · rw [if_neg c]
          rw [if_pos (by simp)]
          refine ⟨_, DPut.k (k := Sum.inl e) hd4 (small (by rw [kvsOf_len]; omega)), ?_⟩
          rw [putK_kvs c]
          have hw5 : upd H4 d (.dK (kvsOf (ks4 ++ [e]))) w0 = some (.lst (ws4.map V.int)) := by rw [upd_ne ndw]; exact hw4
          refine ⟨tyL hw5, appR hw5 (small (by rw [List.length_map]; have := M.wl; omega)) ?_⟩
          have hmid := M.mu
          refine hI _ _ ⟨_, rfl, fun b o z => ?_, ?_, ks4 ++ [e], ws4 ++ [e], ?_, ?_, ?_⟩
          · rw [upd_ne (ne_of_none z hw0), upd_ne (ne_of_none z hd)]; exact s4 b o z
          · rw [upd_ne nlw.symm, upd_ne nld.symm]; exact hl4
          · rw [upd_ne ndw', upd_same]
          · rw [upd_same, List.map_append]; rfl
          · rw [et]
            unfold jstep at st
            rw [if_neg c] at st
            exact st
      · rintro σ H4 ⟨v5, rfl, s4, hl4, ks4, ws4, hd4, hw4, M⟩
        rw [List.length_map, List.take_length] at M
        have k4 := nodup_len (by omega) M.nd M.rng
        have mu4 := M.mu
        have up4 := M.up
        refine hN _ _ _ ?_ ⟨ks4, ws4, some (.int p), v5, rfl, rfl, s4, hd4, hw4, M.done⟩
        rw [List.length_append]
        simp only [List.length_cons, List.length_nil]
        omega
/-! #### check_tolls -/
def sp_check_tolls (T : Txt K mg) : Sp := fun vs H Q _ => ∃ (p : Addr) (r : Road), vs = [.ref p] ∧ H p = some (.tup (vRoad r)) ∧ 2 ≤ r.t ∧ r.t ≤ 1000000 ∧ 2 ≤ r.u ∧ r.u ≤ 1000000 ∧ ∀ H', Same H H' → Q .non H'
abbrev s_check_tolls : Stmt := top 12
theorem sc_check_tolls : FnScope ["road", "number"] ["road"] (defScope s_check_tolls) := FnScope.of (by kernel_rfl)
theorem n_check_tolls__road : NmL (defScope s_check_tolls) "road" := .of (by kernel_rfl)
theorem n_check_tolls__number : NmL (defScope s_check_tolls) "number" := .of (by kernel_rfl)
theorem n_check_tolls__LEAST_TOLL : NmG (defScope s_check_tolls) "LEAST_TOLL" := .of (by kernel_rfl)
theorem n_check_tolls__MOST_TOLL : NmG (defScope s_check_tolls) "MOST_TOLL" := .of (by kernel_rfl)
theorem n_check_tolls__BadWeb : NmG (defScope s_check_tolls) "BadWeb" := .of (by kernel_rfl)

theorem ok_check_tolls (T : Txt K mg) (hq : Quiet CX) {f : Addr} {fd : FuncData} (D : Df K mg "check_tolls" s_check_tolls ["road"] f fd) : FnOk P w K mg base CX 1 f fd ["road"] (sp_check_tolls T) := by
  refine D.F.okC sc_check_tolls (fun vs H Q E h => ?_) (fun cdv A outer s H vs Q E hr h => ?_)
  · obtain ⟨p, r, rfl, _⟩ := h
    rfl
  · obtain ⟨p, r, rfl, hp, t0, t1, u0, u1, k⟩ := h
    refine ⟨_, (pss_one (ps_for PassesOwn.never rfl (pi_tup (pe_tup (pa_cons (pe_ix ix_tup (pvl 0 n_check_tolls__road) pe_int (fun _ _ => rfl)) (pa_cons (pe_ix ix_tup (pvl 0 n_check_tolls__road) pe_int (fun _ _ => rfl)) pa_nil)))) (pg_name (i := 1) sc_check_tolls.nd rfl (Or.inl n_check_tolls__number.l)) (pss_one (ps_if (pt_not (pt_chain op_le op_le (pe_globI n_check_tolls__LEAST_TOLL.g T.c_LEAST_TOLL (hd := n_check_tolls__LEAST_TOLL.d)) (pvl 1 n_check_tolls__number) (pe_globI n_check_tolls__MOST_TOLL.g T.c_MOST_TOLL (hd := n_check_tolls__MOST_TOLL.d)))) (pss_one ps_never) pss_nil)))), ?_⟩
    rw [show L2.start ["road", "number"] [V.ref p] = [some (V.ref p), none] from rfl]
    walk_at "rd"
    refine ixT hp rfl (ixT hp rfl ⟨smallE (by simp), fun q hn => ?_⟩)
    have e1 : upd H q (.tup [.int r.t, .int r.u]) q = some (.tup [.int r.t, .int r.u]) := upd_same
    refine ⟨⟨_, SqT.of e1⟩, for_tup (K := K) (xs := [.int r.t, .int r.u]) (fun i σ H2 => H2 = upd H q (.tup [.int r.t, .int r.u]) ∧ ∃ v, σ = [some (.ref p), v]) ⟨rfl, _, rfl⟩ (fun i σ H2 _ z => by rw [z.1]; exact SqT.of e1) ?_ ?_⟩
    · rintro i x σ H2 hi ⟨rfl, v, rfl⟩
      have hx : ∃ n : Int, x = .int n ∧ 2 ≤ n ∧ n ≤ 1000000 := by
        match i, hi with
        | 0, hi => exact ⟨r.t, by simpa using hi.symm, t0, t1⟩
        | 1, hi => exact ⟨r.u, by simpa using hi.symm, u0, u1⟩
      obtain ⟨n, rfl, n0, n1⟩ := hx
      walk_at "rd"
      rw [if_pos n0, if_neg (by omega)]
      exact ⟨_, rfl⟩
    · rintro σ H2 ⟨rfl, v, rfl⟩
      exact k _ (Same.new _ hn)
/-! #### Web.__init__ -/
/-- the attributes of a web -/
def wflds (m : Int) (t : Addr) : List (Str × V) := putF "roads" (.ref t) (putF "many" (.int m) [])
theorem ne_mr : ¬ (("many" : Str) = "roads") := by decide +kernel
theorem wflds_many (m : Int) (t : Addr) : (wflds m t).lookup ("many" : Str) = some (.int m) := by
  unfold wflds
  rw [lookup_putF, if_neg ne_mr, lookup_putF, if_pos rfl]
theorem wflds_roads (m : Int) (t : Addr) : (wflds m t).lookup ("roads" : Str) = some (.ref t) := by
  unfold wflds
  rw [lookup_putF, if_pos rfl]
/-- a web of m places and the roads rs stands at p, its tuple at t, the roads' tuples at ps -/
structure WebAt (C : Addr) (H : Hp) (p : Addr) (m : Int) (t : Addr) (ps : List Addr) (rs : List Road) : Prop where
  ob : ∃ dx, H p = some (.ins C dx (wflds m t))
  tu : H t = some (.tup (ps.map V.ref))
  ro : RoadsAt H ps rs
  go : Good m rs
theorem WebAt.same {C : Addr} {H H' : Hp} {p : Addr} {m : Int} {t : Addr} {ps : List Addr} {rs : List Road} (e : Same H H') (h : WebAt C H p m t ps rs) : WebAt C H' p m t ps rs :=
  ⟨let ⟨dx, q⟩ := h.ob; ⟨dx, e _ _ q⟩, e _ _ h.tu, RoadsAt.same e h.ro, h.go⟩
def sp_Web___init__ (T : Txt K mg) : Sp := fun vs H Q _ => ∃ (p dx : Addr) (m : Int) (c : Bool) (a : Addr) (ps : List Addr) (rs : List Road), vs = [.ref p, .int m, .ref a] ∧ H p = some (.ins T.Web dx []) ∧ SqX K c H a (ps.map V.ref) ∧ RoadsAt H ps rs ∧ Good m rs ∧
  ∀ t H', H t = none → WebAt T.Web H' p m t ps rs → (∀ b o, H b = some o → b ≠ p → H' b = some o) → Q .non H'
abbrev s_Web___init__ : Stmt := inClass (top 8) 0
theorem sc_Web___init__ : FnScope ["self", "many", "roads", "kept", "road"] ["self", "many", "roads"] (defScope s_Web___init__) := FnScope.of (by kernel_rfl)
theorem n_Web___init____self : NmL (defScope s_Web___init__) "self" := .of (by kernel_rfl)
theorem n_Web___init____many : NmL (defScope s_Web___init__) "many" := .of (by kernel_rfl)
theorem n_Web___init____roads : NmL (defScope s_Web___init__) "roads" := .of (by kernel_rfl)
theorem n_Web___init____kept : NmL (defScope s_Web___init__) "kept" := .of (by kernel_rfl)
theorem n_Web___init____road : NmL (defScope s_Web___init__) "road" := .of (by kernel_rfl)
theorem n_Web___init____tuple : NmG (defScope s_Web___init__) "tuple" := .of (by kernel_rfl)
theorem n_Web___init____check_counts : NmG (defScope s_Web___init__) "check_counts" := .of (by kernel_rfl)
theorem n_Web___init____check_ends : NmG (defScope s_Web___init__) "check_ends" := .of (by kernel_rfl)
theorem n_Web___init____check_tolls : NmG (defScope s_Web___init__) "check_tolls" := .of (by kernel_rfl)
theorem n_Web___init____check_joined : NmG (defScope s_Web___init__) "check_joined" := .of (by kernel_rfl)

theorem ok_Web___init__ (T : Txt K mg) (hq : Quiet CX) {f : Addr} {fd : FuncData} (F : Fun K "__init__" "Web.__init__" s_Web___init__ f fd) {f_check_counts : Addr} {fd_check_counts : FuncData} (D_check_counts : Df K mg "check_counts" s_check_counts ["many", "roads"] f_check_counts fd_check_counts) (G_check_counts : FnOk P w K mg base CX 1 f_check_counts fd_check_counts ["many", "roads"] (sp_check_counts T)) {f_check_ends : Addr} {fd_check_ends : FuncData} (D_check_ends : Df K mg "check_ends" s_check_ends ["many", "road"] f_check_ends fd_check_ends) (G_check_ends : FnOk P w K mg base CX 2 f_check_ends fd_check_ends ["many", "road"] (sp_check_ends T)) {f_check_joined : Addr} {fd_check_joined : FuncData} (D_check_joined : Df K mg "check_joined" s_check_joined ["many", "roads"] f_check_joined fd_check_joined) (G_check_joined : FnOk P w K mg base CX 2 f_check_joined fd_check_joined ["many", "roads"] (sp_check_joined T)) {f_check_tolls : Addr} {fd_check_tolls : FuncData} (D_check_tolls : Df K mg "check_tolls" s_check_tolls ["road"] f_check_tolls fd_check_tolls) (G_check_tolls : FnOk P w K mg base CX 1 f_check_tolls fd_check_tolls ["road"] (sp_check_tolls T)) : FnOk P w K mg base CX 3 f fd ["self", "many", "roads"] (sp_Web___init__ T) := by
  refine F.okC sc_Web___init__ (fun vs H Q E h => ?_) (fun cdv A outer s H vs Q E hr h => ?_)
  · obtain ⟨p, dx, m, c, a, ps, rs, rfl, _⟩ := h
    rfl
  · obtain ⟨p, dx, m, c, a, ps, rs, rfl, hp, ha, hro, g, k⟩ := h
    refine ⟨_, (pss_cons (ps_set (i := 3) sc_Web___init__.nd rfl (Or.inl n_Web___init____kept.l) (pe_callTy call_tuple_of n_Web___init____tuple.g T.tuple pb_tuple (pa_cons (pe_comp rfl (ct_plain (Nc := ["road"]) 1 (by decide +kernel) (by decide +kernel) rfl (by decide +kernel) rfl) (pi_any c (pvl 2 n_Web___init____roads)) (fun _ _ _ _ => (pg_name (i := 0) (show (["road"] : List Str).Nodup from by decide +kernel) rfl (Or.inl rfl))) (fun _ _ _ _ => pts_nil) (fun _ _ _ _ => (pe_callTy (call_tuple_ofK K rfl) (by rfl) T.tuple pb_tuple (pa_cons (pv 0) pa_nil)))) pa_nil) (hn := n_Web___init____tuple.n) (hdb := n_Web___init____tuple.d))) (pss_cons (ps_expr (pe_call G_check_counts (hr.mono (by decide)) n_Web___init____check_counts.g D_check_counts.m D_check_counts.F.kp D_check_counts.b .nil (passQ hq) (pa_cons (pvl 1 n_Web___init____many) (pa_cons (pvl 3 n_Web___init____kept) pa_nil)) (hdb := n_Web___init____check_counts.d))) (pss_cons (ps_for PassesOwn.never rfl (pi_tup (pvl 3 n_Web___init____kept)) (pg_name (i := 4) sc_Web___init__.nd rfl (Or.inl n_Web___init____road.l)) (pss_cons (ps_expr (pe_call G_check_ends (hr.mono (by decide)) n_Web___init____check_ends.g D_check_ends.m D_check_ends.F.kp D_check_ends.b .nil (passQ hq) (pa_cons (pvl 1 n_Web___init____many) (pa_cons (pvl 4 n_Web___init____road) pa_nil)) (hdb := n_Web___init____check_ends.d))) (pss_one (ps_expr (pe_call G_check_tolls (hr.mono (by decide)) n_Web___init____check_tolls.g D_check_tolls.m D_check_tolls.F.kp D_check_tolls.b .nil (passQ hq) (pa_cons (pvl 4 n_Web___init____road) pa_nil) (hdb := n_Web___init____check_tolls.d)))))) (pss_cons (ps_expr (pe_call G_check_joined (hr.mono (by decide)) n_Web___init____check_joined.g D_check_joined.m D_check_joined.F.kp D_check_joined.b .nil (passQ hq) (pa_cons (pvl 1 n_Web___init____many) (pa_cons (pvl 3 n_Web___init____kept) pa_nil)) (hdb := n_Web___init____check_joined.d))) (pss_cons (ps_fld (pvl 0 n_Web___init____self) (pvl 1 n_Web___init____many) rfl) (pss_one (ps_fld (pvl 0 n_Web___init____self) (pvl 3 n_Web___init____kept) rfl))))))), ?_⟩
    rw [show L2.start ["self", "many", "roads", "kept", "road"] [V.ref p, V.int m, V.ref a] = [some (V.ref p), some (V.int m), some (V.ref a), none, none] from rfl]
    walk_at "rd"
    refine ⟨⟨_, ha⟩, fun l hl => ?_⟩
    have hlen : ps.length = rs.length := Paired.length hro
    have glen := g.len
    have m24 := g.m24
    have hl1 : Same H (upd H l (.lst [])) := Same.new _ hl
    refine comp_any (K := K) (xs := ps.map V.ref) (fun i ys σ H2 => H2 = upd H l (.lst ((ps.take i).map V.ref)) ∧ ys = (ps.take i).map V.ref ∧ ∃ v, σ = [v]) ⟨rfl, rfl, _, rfl⟩ (fun i ys σ H2 _ ⟨z, _⟩ => by rw [z]; exact Same.sqX (Same.new _ hl) ha) ?_ ?_
    · rintro i x ys σ H2 N hN hi ⟨rfl, rfl, v, rfl⟩
      obtain ⟨q, r, rfl, h1, h2, h3⟩ := hro.get hi
      have nq : q ≠ l := ne_of_none h3 hl
      have hil : i < ps.length := (List.getElem?_eq_some_iff.mp h1).1
      have et : ps.take (i + 1) = ps.take i ++ [q] := by rw [List.take_succ, h1]; rfl
      walk_at "rd"
      refine ⟨vRoad r, .inr ⟨SqT.of (by rw [upd_ne nq]; exact h3), upd_same, small (by rw [List.length_map, List.length_take]; omega), hN _ _ _ ⟨?_, ?_, _, rfl⟩⟩⟩
      · rw [upd_upd, et, List.map_append]; rfl
      · rw [et, List.map_append]; rfl
    · rintro ys σ H2 ⟨rfl, rfl, v, rfl⟩
      rw [List.length_map, List.take_length]
      refine ⟨l, rfl, ps.map V.ref, .inl ⟨SqL.of upd_same, fun t ht => ?_⟩⟩
      have s1 : Same H (upd H l (.lst (ps.map V.ref))) := Same.new _ hl
      have s2 : Same (upd H l (.lst (ps.map V.ref))) (upd (upd H l (.lst (ps.map V.ref))) t (.tup (ps.map V.ref))) := Same.new _ ht
      have ht0 : H t = none := s1.free ht
      have ht1 : ∀ {H' : Hp}, Same (upd (upd H l (.lst (ps.map V.ref))) t (.tup (ps.map V.ref))) H' → H' t = some (.tup (ps.map V.ref)) := fun e => e _ _ upd_same
      refine ⟨m, t, ps.map V.ref, rfl, SqT.of upd_same, g.m1, g.m24, by rw [List.length_map]; omega, ⟨_, SqT.of upd_same⟩, ?_⟩
      refine for_tupN (K := K) (xs := ps.map V.ref) (fun i σ H3 => Same (upd (upd H l (.lst (ps.map V.ref))) t (.tup (ps.map V.ref))) H3 ∧ ∃ v, σ = [some (.ref p), some (.int m), some (.ref a), some (.ref t), v]) ⟨Same.refl _, _, rfl⟩ (fun i σ H3 _ ⟨z, _⟩ => SqT.of (ht1 z)) ?_ ?_
      · rintro i x σ H3 N hN hi ⟨s3, v, rfl⟩
        have s03 := s1.trans (s2.trans s3)
        obtain ⟨q, r, rfl, h1, h2, h3⟩ := hro.get hi
        have ok := g.ok r (List.mem_of_getElem? h2)
        walk_at "rd"
        refine ⟨m, q, r, rfl, s03 _ _ h3, ok.a0, ok.a1, ok.b0, ok.b1, ok.ne, ?_⟩
        exact ⟨q, r, rfl, s03 _ _ h3, ok.t0, ok.t1, ok.u0, ok.u1, fun H4 s4 => hN _ _ ⟨s3.trans s4, _, rfl⟩⟩
      · rintro σ H3 ⟨s3, v, rfl⟩
        have s03 := s1.trans (s2.trans s3)
        walk_at "rd"
        refine ⟨m, t, ps, rs, rfl, SqT.of (ht1 s3), RoadsAt.same s03 hro, g, fun H4 s4 => ?_⟩
        have s04 := s03.trans s4
        have ntp : t ≠ p := fun z => by rw [z, hp] at ht0; cases ht0
        refine ⟨T.Web, dx, [], s04 _ _ hp, T.cl_Web, T.n_many, by decide, ?_⟩
        refine ⟨T.Web, dx, _, upd_same, T.cl_Web, T.n_roads, by show 1 < 1000; decide, ?_⟩
        rw [upd_upd]
        refine k t _ ht0 ⟨⟨dx, upd_same⟩, ?_, ?_, g⟩ fun b o hb nb => ?_
        · rw [upd_ne ntp]; exact ht1 (s3.trans s4)
        · refine Paired.imp' (fun q r hq => ?_) hro
          rw [upd_ne (ne_of hq hp (by intro z; cases z))]
          exact s04 _ _ hq
        · rw [upd_ne nb]; exact s04 _ _ hb
/-- Web(m, roads), at a call: nothing is changed, a new web stands -/
theorem mk_web (T : Txt K mg) {H : Hp} {m : Int} {c : Bool} {a : Addr} {ps : List Addr} {rs : List Road} {Q : Addr → Hp → Prop} (ha : SqX K c H a (ps.map V.ref)) (ro : RoadsAt H ps rs) (g : Good m rs)
    (k : ∀ x t H', H x = none → H t = none → Same H H' → WebAt T.Web H' x m t ps rs → Q x H') :
    ∀ x dx, H x = none → H dx = none → dx ≠ x → sp_Web___init__ T [.ref x, .int m, .ref a] (upd (upd H dx (.own x)) x (.ins T.Web dx [])) (fun v H2 => v = .non ∧ Q x H2) E0 := by
  intro x dx hx hdx ne
  have hx1 : upd H dx (.own x) x = none := by rw [upd_ne ne.symm]; exact hx
  have s0 : Same H (upd (upd H dx (.own x)) x (.ins T.Web dx [])) := (Same.new _ hdx).trans (Same.new _ hx1)
  exact ⟨x, dx, m, c, a, ps, rs, rfl, upd_same, Same.sqX s0 ha, RoadsAt.same s0 ro, g, fun t H' ht W kp => ⟨rfl, k x t H' hx (s0.free ht) (fun b o e => kp b o (s0 b o e) (ne_of_none e hx)) W⟩⟩
/-! #### _law_figures -/
def sp_law_figures (T : Txt K mg) : Sp := fun vs H Q _ => ∃ n : Nat, vs = [.int n] ∧ n < 2 ^ 4000 ∧ Q (.str (FS n)) H
abbrev s_law_figures : Stmt := top 37
theorem sc_law_figures : FnScope ["number", "text"] ["number"] (defScope s_law_figures) := FnScope.of (by kernel_rfl)
theorem n_law_figures__number : NmL (defScope s_law_figures) "number" := .of (by kernel_rfl)
theorem n_law_figures__text : NmL (defScope s_law_figures) "text" := .of (by kernel_rfl)

theorem ok_law_figures (T : Txt K mg) (hq : Quiet CX) {f : Addr} {fd : FuncData} (D : Df K mg "_law_figures" s_law_figures ["number"] f fd) : FnOk P w K mg base CX 1 f fd ["number"] (sp_law_figures T) := by
  refine D.F.okC sc_law_figures (fun vs H Q E h => ?_) (fun cdv A outer s H vs Q E hr h => ?_)
  · obtain ⟨n, rfl, _⟩ := h
    rfl
  · obtain ⟨n, rfl, nb, k⟩ := h
    refine ⟨_, (pss_cons (ps_set (i := 1) sc_law_figures.nd rfl (Or.inl n_law_figures__text.l) pe_str) (pss_cons (ps_while PassesOwn.never (PW.pt (pw_or (pt_cmpR op_gt (pvl 0 n_law_figures__number) pe_int (nomark _)) (pw_or1 (pt_cmpR op_eq (pvl 1 n_law_figures__text) pe_str (nomark _))))) (pss_cons (ps_set (i := 1) sc_law_figures.nd rfl (Or.inl n_law_figures__text.l) (pe_op op_add_str (pe_ix ix_str pe_str (pe_op op_mod (pvl 0 n_law_figures__number) pe_int) (fun _ _ => rfl)) (pvl 1 n_law_figures__text))) (pss_one (ps_set (i := 0) sc_law_figures.nd rfl (Or.inl n_law_figures__number.l) (pe_op op_fdiv (pvl 0 n_law_figures__number) pe_int))))) (pss_one (ps_ret (pvl 1 n_law_figures__text))))), ?_⟩
    rw [show L2.start ["number", "text"] [V.int n] = [some (V.int n), none] from rfl]
    refine cutS fun N1 h1 => ?_
    walk_at "rd"
    refine h1 _ _ (cutS fun N2 h2 => ?_)
    refine while_H (fun m σ H' => H' = H ∧ ∃ (q : Nat) (t : List Nat), m = q + (if t = [] then 1 else 0) ∧ FigInv n q t ∧ σ = [some (V.int q), some (V.str ⟨t.toArray⟩)]) (n + 1) ⟨rfl, n, [], rfl, .inl ⟨rfl, rfl⟩, rfl⟩ ?_
    rintro m σ H' N BB hBB hN hN2 ⟨rfl, q, t, rfl, fi, rfl⟩
    refine hBB _ _ _ ?_
    walk_at "rd"
    have tl := fi.len nb
    have stp : 0 < q ∨ t = [] → ((0 : Int) < 10 ∧ rIxS (V.str (Str.ofString "0123456789")) (V.int ((q : Int) % 10)) H' fun x H1 => ∃ i, x = V.str i ∧ ∃ x, V.str ⟨t.toArray⟩ = V.str x ∧ i.length + x.length ≤ sizeLine ∧ CDiv (q : Int) 10 ∧ N [some (V.int ((q : Int) / 10)), some (V.str (i ++ x))] H1) := by
      intro g
      rw [show (q : Int) % 10 = ((q % 10 : Nat) : Int) by omega, show (q : Int) / 10 = ((q / 10 : Nat) : Int) by omega]
      refine ⟨by decide, ixS (by decide) (tenS _ (Nat.mod_lt _ (by decide))) ⟨_, rfl, _, rfl, ?_, ⟨by decide, by decide⟩, ?_⟩⟩
      · rw [len_list, len_list]
        show 1 + t.length ≤ sizeLine
        exact Nat.le_trans (by omega) (show 1206 ≤ sizeLine by decide)
      · refine hN (q / 10) _ _ ?_ ⟨rfl, q / 10, (48 + q % 10) :: t, by simp, fi.step g, ?_⟩
        · rcases g with g | g
          · omega
          · rw [if_pos g]; omega
        · rw [show (⟨#[48 + q % 10]⟩ ++ ⟨t.toArray⟩ : Str) = ⟨((48 + q % 10) :: t).toArray⟩ from str_ext (by rw [app_list]; rfl)]
    by_cases c : (0 : Int) < q
    · rw [if_pos c]
      exact ⟨N, hN2, stp (.inl (by omega))⟩
    · rw [if_neg c]
      by_cases ct : t = []
      · rw [if_pos (by rw [ct]; rfl)]
        exact ⟨N, hN2, stp (.inr ct)⟩
      · rw [if_neg (fun z => ct (by injection z with z; exact show t = [] from congrArg (fun s : Str => s.cps.toList) z))]
        refine h2 _ _ ?_
        walk_at "rd"
        rw [fi.done (by omega) ct]
        exact k
/-! #### _law_cell -/
def sp_law_cell (T : Txt K mg) : Sp := fun vs H Q _ => ∃ (a : Addr) (ns : List Int) (k : Int), vs = [.ref a, .int k] ∧ SqL K H a (ns.map V.int) ∧ 0 ≤ k ∧ ∀ v, Q (.int v) H
abbrev s_law_cell : Stmt := top 30
theorem sc_law_cell : FnScope ["script", "k"] ["script", "k"] (defScope s_law_cell) := FnScope.of (by kernel_rfl)
theorem n_law_cell__script : NmL (defScope s_law_cell) "script" := .of (by kernel_rfl)
theorem n_law_cell__k : NmL (defScope s_law_cell) "k" := .of (by kernel_rfl)
theorem n_law_cell__len : NmG (defScope s_law_cell) "len" := .of (by kernel_rfl)

theorem ok_law_cell (T : Txt K mg) (hq : Quiet CX) {f : Addr} {fd : FuncData} (D : Df K mg "_law_cell" s_law_cell ["script", "k"] f fd) : FnOk P w K mg base CX 1 f fd ["script", "k"] (sp_law_cell T) := by
  refine D.F.okC sc_law_cell (fun vs H Q E h => ?_) (fun cdv A outer s H vs Q E hr h => ?_)
  · obtain ⟨a, ns, i, rfl, _⟩ := h
    rfl
  · obtain ⟨a, ns, i, rfl, ha, h0, k⟩ := h
    refine ⟨_, (pss_cons (ps_if (pt_cmpR op_lt (pvl 1 n_law_cell__k) (pe_callB call_len_seq n_law_cell__len.g T.len pb_len (pa_cons (pvl 0 n_law_cell__script) pa_nil) (hn := n_law_cell__len.n) (hdb := n_law_cell__len.d)) (nomark _)) (pss_one (ps_ret (pe_ix ix_list (pvl 0 n_law_cell__script) (pvl 1 n_law_cell__k) (fun _ _ => rfl)))) pss_nil) (pss_one (ps_ret pe_int))), ?_⟩
    rw [show L2.start ["script", "k"] [V.ref a, V.int i] = [some (V.ref a), some (V.int i)] from rfl]
    walk_at "rd"
    refine ⟨_, .inl ha, ?_⟩
    rw [List.length_map]
    by_cases c : i < (ns.length : Int)
    · rw [if_pos c]
      have hi : i.toNat < ns.length := by omega
      exact ixS ha (atI_int h0 (v := .int ns[i.toNat]) (by rw [List.getElem?_map, List.getElem?_eq_getElem hi]; rfl)) (k _)
    · rw [if_neg c]
      exact k 0
/-! #### _law_mixed -/
theorem mixed_ok (c k : Int) (k0 : 0 ≤ k) (k1 : k ≤ 1000) : ∃ a b d : Int, (c % 998244353 + 7919 * k + 11) * 48271 % 2147483647 = a ∧ a * a % 2147483629 = b ∧ (b + 104729 * k + 7) * b % 1000000007 = d ∧ CMul 7919 k ∧ CMul (c % 998244353 + 7919 * k + 11) 48271 ∧ CMul a a ∧ CMul 104729 k ∧ CMul (b + 104729 * k + 7) b ∧ CMul d 16807 ∧ 0 ≤ d * 16807 % 2147483647 / 8 ∧ d * 16807 % 2147483647 / 8 ≤ 2147483647 := by
  have em : ∀ (x n : Int), 0 < n → 0 ≤ x % n ∧ x % n < n := fun x n h => ⟨Int.emod_nonneg x (Int.ne_of_gt h), Int.emod_lt_of_pos x h⟩
  refine ⟨_, _, _, rfl, rfl, rfl, ?_⟩
  have h1 := em ((c % 998244353 + 7919 * k + 11) * 48271) 2147483647 (by decide)
  generalize (c % 998244353 + 7919 * k + 11) * 48271 % 2147483647 = a at h1 ⊢
  have h2 := em (a * a) 2147483629 (by decide)
  generalize a * a % 2147483629 = b at h2 ⊢
  have h3 := em ((b + 104729 * k + 7) * b) 1000000007 (by decide)
  generalize (b + 104729 * k + 7) * b % 1000000007 = d at h3 ⊢
  have h4 := em (d * 16807) 2147483647 (by decide)
  exact ⟨.inl ⟨by decide, by decide⟩, .inr ⟨by decide, by decide⟩, .inl ⟨by omega, by omega⟩, .inl ⟨by decide, by decide⟩, .inr ⟨by omega, by omega⟩, .inr ⟨by decide, by decide⟩, by omega, by omega⟩
def sp_law_mixed (T : Txt K mg) : Sp := fun vs H Q _ => ∃ (c k : Int), vs = [.int c, .int k] ∧ 0 ≤ k ∧ k ≤ 1000 ∧ ∀ v, 0 ≤ v → v ≤ 2147483647 → Q (.int v) H
abbrev s_law_mixed : Stmt := top 31
theorem sc_law_mixed : FnScope ["cell", "k", "m"] ["cell", "k"] (defScope s_law_mixed) := FnScope.of (by kernel_rfl)
theorem n_law_mixed__cell : NmL (defScope s_law_mixed) "cell" := .of (by kernel_rfl)
theorem n_law_mixed__k : NmL (defScope s_law_mixed) "k" := .of (by kernel_rfl)
theorem n_law_mixed__m : NmL (defScope s_law_mixed) "m" := .of (by kernel_rfl)

theorem ok_law_mixed (T : Txt K mg) (hq : Quiet CX) {f : Addr} {fd : FuncData} (D : Df K mg "_law_mixed" s_law_mixed ["cell", "k"] f fd) : FnOk P w K mg base CX 1 f fd ["cell", "k"] (sp_law_mixed T) := by
  refine D.F.okC sc_law_mixed (fun vs H Q E h => ?_) (fun cdv A outer s H vs Q E hr h => ?_)
  · obtain ⟨c, i, rfl, _⟩ := h
    rfl
  · obtain ⟨c, i, rfl, i0, i1, k⟩ := h
    obtain ⟨a, b, d, e1, e2, e3, h1, h2, h3, h4, h5, h6, h7, h8⟩ := mixed_ok c i i0 i1
    refine ⟨_, (pss_cons (ps_set (i := 2) sc_law_mixed.nd rfl (Or.inl n_law_mixed__m.l) (pe_op op_mod (pe_op op_mul (pe_op op_add (pe_op op_add (pe_op op_mod (pvl 0 n_law_mixed__cell) pe_int) (pe_op op_mul pe_int (pvl 1 n_law_mixed__k))) pe_int) pe_int) pe_int)) (pss_cons (ps_set (i := 2) sc_law_mixed.nd rfl (Or.inl n_law_mixed__m.l) (pe_op op_mod (pe_op op_mul (pvl 2 n_law_mixed__m) (pvl 2 n_law_mixed__m)) pe_int)) (pss_cons (ps_set (i := 2) sc_law_mixed.nd rfl (Or.inl n_law_mixed__m.l) (pe_op op_mod (pe_op op_mul (pe_op op_add (pe_op op_add (pvl 2 n_law_mixed__m) (pe_op op_mul pe_int (pvl 1 n_law_mixed__k))) pe_int) (pvl 2 n_law_mixed__m)) pe_int)) (pss_one (ps_ret (pe_op op_fdiv (pe_op op_mod (pe_op op_mul (pvl 2 n_law_mixed__m) pe_int) pe_int) pe_int)))))), ?_⟩
    rw [show L2.start ["cell", "k", "m"] [V.int c, V.int i] = [some (V.int c), some (V.int i), none] from rfl]
    walk_at "rd"
    rw [e1, e2, e3]
    exact ⟨by decide, h1, h2, by decide, h3, by decide, h4, h5, by decide, h6, by decide, ⟨by decide, by decide⟩, k _ h7 h8⟩
/-! #### _law_numbers -/
def sp_law_numbers (T : Txt K mg) : Sp := fun vs H Q _ => ∃ (a : Addr) (ns : List Int) (m : Int), vs = [.ref a, .int m] ∧ SqL K H a (ns.map V.int) ∧ 0 ≤ m ∧ m ≤ 800 ∧ ∀ (l : Addr) (xs : List Int) (H' : Hp), H l = none → Same H H' → H' l = some (.lst (xs.map V.int)) → (xs.length : Int) = m → Q (.ref l) H'
abbrev s_law_numbers : Stmt := top 32
theorem sc_law_numbers : FnScope ["script", "many", "rest", "numbers", "k"] ["script", "many"] (defScope s_law_numbers) := FnScope.of (by kernel_rfl)
theorem n_law_numbers__script : NmL (defScope s_law_numbers) "script" := .of (by kernel_rfl)
theorem n_law_numbers__many : NmL (defScope s_law_numbers) "many" := .of (by kernel_rfl)
theorem n_law_numbers__rest : NmL (defScope s_law_numbers) "rest" := .of (by kernel_rfl)
theorem n_law_numbers__numbers : NmL (defScope s_law_numbers) "numbers" := .of (by kernel_rfl)
theorem n_law_numbers__k : NmL (defScope s_law_numbers) "k" := .of (by kernel_rfl)
theorem n_law_numbers__law_cell : NmG (defScope s_law_numbers) "_law_cell" := .of (by kernel_rfl)
theorem n_law_numbers__range : NmG (defScope s_law_numbers) "range" := .of (by kernel_rfl)
theorem n_law_numbers__law_mixed : NmG (defScope s_law_numbers) "_law_mixed" := .of (by kernel_rfl)

theorem ok_law_numbers (T : Txt K mg) (hq : Quiet CX) {f : Addr} {fd : FuncData} (D : Df K mg "_law_numbers" s_law_numbers ["script", "many"] f fd) {f_law_cell : Addr} {fd_law_cell : FuncData} (D_law_cell : Df K mg "_law_cell" s_law_cell ["script", "k"] f_law_cell fd_law_cell) (G_law_cell : FnOk P w K mg base CX 1 f_law_cell fd_law_cell ["script", "k"] (sp_law_cell T)) {f_law_mixed : Addr} {fd_law_mixed : FuncData} (D_law_mixed : Df K mg "_law_mixed" s_law_mixed ["cell", "k"] f_law_mixed fd_law_mixed) (G_law_mixed : FnOk P w K mg base CX 1 f_law_mixed fd_law_mixed ["cell", "k"] (sp_law_mixed T)) : FnOk P w K mg base CX 2 f fd ["script", "many"] (sp_law_numbers T) := by
  refine D.F.okC sc_law_numbers (fun vs H Q E h => ?_) (fun cdv A outer s H vs Q E hr h => ?_)
  · obtain ⟨a, ns, m, rfl, _⟩ := h
    rfl
  · obtain ⟨a, ns, m, rfl, ha, m0, m1, k⟩ := h
    refine ⟨_, (pss_cons (ps_set (i := 2) sc_law_numbers.nd rfl (Or.inl n_law_numbers__rest.l) (pe_call G_law_cell (hr.mono (by decide)) n_law_numbers__law_cell.g D_law_cell.m D_law_cell.F.kp D_law_cell.b .nil (passQ hq) (pa_cons (pvl 0 n_law_numbers__script) (pa_cons pe_int pa_nil)) (hdb := n_law_numbers__law_cell.d))) (pss_cons (ps_set (i := 3) sc_law_numbers.nd rfl (Or.inl n_law_numbers__numbers.l) (pe_lst pa_nil)) (pss_cons (ps_for PassesOwn.never rfl (pi_range1 n_law_numbers__range.g T.range (pa_cons (pvl 1 n_law_numbers__many) pa_nil)) (pg_name (i := 4) sc_law_numbers.nd rfl (Or.inl n_law_numbers__k.l)) (pss_one (ps_if (pt_cmpR op_eq (pe_op op_mod (pe_call G_law_cell (hr.mono (by decide)) n_law_numbers__law_cell.g D_law_cell.m D_law_cell.F.kp D_law_cell.b .nil (passQ hq) (pa_cons (pvl 0 n_law_numbers__script) (pa_cons pe_int pa_nil)) (hdb := n_law_numbers__law_cell.d)) pe_int) pe_int (nomark _)) (pss_cons (ps_expr (pe_bm PySem.F.plainAttrs_list PySem.F.slot_list_append PySem.F.type_list_append mt_append (pvl 3 n_law_numbers__numbers) (pa_cons (pe_op op_mod (pvl 2 n_law_numbers__rest) (pe_op op_pow pe_int pe_int)) pa_nil))) (pss_one (ps_set (i := 2) sc_law_numbers.nd rfl (Or.inl n_law_numbers__rest.l) (pe_op op_fdivL (pvl 2 n_law_numbers__rest) (pe_op op_pow pe_int pe_int))))) (pss_one (ps_expr (pe_bm PySem.F.plainAttrs_list PySem.F.slot_list_append PySem.F.type_list_append mt_append (pvl 3 n_law_numbers__numbers) (pa_cons (pe_op op_add (pe_op op_mul (pe_call G_law_mixed (hr.mono (by decide)) n_law_numbers__law_mixed.g D_law_mixed.m D_law_mixed.F.kp D_law_mixed.b .nil (passQ hq) (pa_cons (pvl 2 n_law_numbers__rest) (pa_cons (pvl 4 n_law_numbers__k) pa_nil)) (hdb := n_law_numbers__law_mixed.d)) pe_int) (pe_call G_law_mixed (hr.mono (by decide)) n_law_numbers__law_mixed.g D_law_mixed.m D_law_mixed.F.kp D_law_mixed.b .nil (passQ hq) (pa_cons (pvl 2 n_law_numbers__rest) (pa_cons (pe_op op_add (pvl 4 n_law_numbers__k) pe_int) pa_nil)) (hdb := n_law_numbers__law_mixed.d))) pa_nil))))))) (pss_one (ps_ret (pvl 3 n_law_numbers__numbers)))))), ?_⟩
    rw [show L2.start ["script", "many", "rest", "numbers", "k"] [V.ref a, V.int m] = [some (V.ref a), some (V.int m), none, none, none] from rfl]
    walk_at "rd"
    refine ⟨a, ns, 1, rfl, ha, by decide, fun rest => ⟨by decide, fun l nl => ⟨by omega, by omega, ?_⟩⟩⟩
    refine for_rangeN (fun i σ H2 => Same H H2 ∧ ∃ (rest : Int) (xs : List Int) (v4 : Option V), H2 l = some (.lst (xs.map V.int)) ∧ xs.length = i ∧ σ = [some (.ref a), some (.int m), some (.int rest), some (.ref l), v4]) ⟨Same.new _ nl, rest, [], _, upd_same, rfl, rfl⟩ ?_ ?_
    · rintro i σ H2 N hN hi ⟨s2, rest, xs, v4, e2, xl, rfl⟩
      rw [Int.zero_add]
      have sa := Same.seq s2 ha
      have add2 : ∀ (z rest : Int), N [some (V.ref a), some (V.int m), some (V.int rest), some (V.ref l), some (V.int (i : Int))] (upd H2 l (.lst (xs.map V.int ++ [V.int z]))) := fun z rest =>
        hN _ _ ⟨s2.put nl _, rest, xs ++ [z], _, by rw [upd_same, List.map_append]; rfl, by rw [List.length_append, xl]; rfl, rfl⟩
      walk_at "rd"
      refine ⟨a, ns, 0, rfl, sa, by decide, fun c => ⟨c, rfl, by decide, ?_⟩⟩
      have p20 : CPow 10 20 := ⟨by decide, by decide, by decide⟩
      by_cases z : c % 2 = 0
      · rw [if_pos z]
        exact ⟨tyL e2, p20, by decide +kernel, appR e2 (small (by rw [List.length_map]; omega)) ⟨p20, ⟨by decide +kernel, by decide +kernel⟩, add2 _ _⟩⟩
      · rw [if_neg z]
        exact ⟨tyL e2, rest, (i : Int), rfl, by omega, by omega, fun x x0 x1 => ⟨x, rfl, .inr ⟨by decide, by decide⟩, rest, (i : Int) + 100, rfl, by omega, by omega, fun y _ _ => ⟨y, rfl, appR e2 (small (by rw [List.length_map]; omega)) (add2 _ _)⟩⟩⟩
    · rintro σ H2 ⟨s2, rest, xs, v4, e2, xl, rfl⟩
      walk_at "rd"
      exact k l xs H2 nl s2 e2 (by omega)
/-! #### _law_toll -/
def sp_law_toll (T : Txt K mg) : Sp := fun vs H Q _ => ∃ (c : Int), vs = [.int c] ∧ ∀ t, 2 ≤ t → t ≤ 1000000 → Q (.int t) H
abbrev s_law_toll : Stmt := top 33
theorem sc_law_toll : FnScope ["rest"] ["rest"] (defScope s_law_toll) := FnScope.of (by kernel_rfl)
theorem n_law_toll__rest : NmL (defScope s_law_toll) "rest" := .of (by kernel_rfl)

theorem ok_law_toll (T : Txt K mg) (hq : Quiet CX) {f : Addr} {fd : FuncData} (D : Df K mg "_law_toll" s_law_toll ["rest"] f fd) : FnOk P w K mg base CX 1 f fd ["rest"] (sp_law_toll T) := by
  refine D.F.okC sc_law_toll (fun vs H Q E h => ?_) (fun cdv A outer s H vs Q E hr h => ?_)
  · obtain ⟨c, rfl, _⟩ := h
    rfl
  · obtain ⟨c, rfl, k⟩ := h
    refine ⟨_, (pss_cons (ps_if (pt_cmpR op_eq (pe_op op_mod (pvl 0 n_law_toll__rest) pe_int) pe_int (nomark _)) (pss_one (ps_ret (pe_op op_add pe_int (pe_op op_mod (pe_op op_fdiv (pvl 0 n_law_toll__rest) pe_int) pe_int)))) pss_nil) (pss_one (ps_ret (pe_op op_add pe_int (pe_op op_mod (pe_op op_fdiv (pvl 0 n_law_toll__rest) pe_int) pe_int))))), ?_⟩
    rw [show L2.start ["rest"] [V.int c] = [some (V.int c)] from rfl]
    walk_at "rd"
    have a1 := Int.emod_nonneg (c / 8) (show (999999 : Int) ≠ 0 by decide)
    have a2 := Int.emod_lt_of_pos (c / 8) (show (0 : Int) < 999999 by decide)
    have a3 := Int.emod_nonneg (c / 8) (show (3 : Int) ≠ 0 by decide)
    have a4 := Int.emod_lt_of_pos (c / 8) (show (0 : Int) < 3 by decide)
    refine ⟨by decide, ?_⟩
    by_cases z : c % 8 = 0
    · rw [if_pos z]
      exact ⟨⟨by decide, by decide⟩, by decide, k _ (by omega) (by omega)⟩
    · rw [if_neg z]
      exact ⟨⟨by decide, by decide⟩, by decide, k _ (by omega) (by omega)⟩
/-! #### _law_web -/
def sp_law_web (T : Txt K mg) : Sp := fun vs H Q _ => ∃ (a : Addr) (ns : List Int), vs = [.ref a] ∧ H a = some (.lst (ns.map V.int)) ∧ 25 ≤ ns.length ∧ ns.length ≤ 1000 ∧
  ∀ (t l : Addr) (m : Int) (ps : List Addr) (rs : List Road) (H' : Hp), H t = none → H l = none → Same H H' → H' t = some (.tup [.int m, .ref l]) → H' l = some (.lst (ps.map V.ref)) → RoadsAt H' ps rs → Good m rs → Q (.ref t) H'
abbrev s_law_web : Stmt := top 34
theorem sc_law_web : FnScope ["numbers", "head", "many", "names", "k", "roads", "rest", "near", "there", "back", "road"] ["numbers"] (defScope s_law_web) := FnScope.of (by kernel_rfl)
theorem n_law_web__numbers : NmL (defScope s_law_web) "numbers" := .of (by kernel_rfl)
theorem n_law_web__head : NmL (defScope s_law_web) "head" := .of (by kernel_rfl)
theorem n_law_web__many : NmL (defScope s_law_web) "many" := .of (by kernel_rfl)
theorem n_law_web__names : NmL (defScope s_law_web) "names" := .of (by kernel_rfl)
theorem n_law_web__k : NmL (defScope s_law_web) "k" := .of (by kernel_rfl)
theorem n_law_web__roads : NmL (defScope s_law_web) "roads" := .of (by kernel_rfl)
theorem n_law_web__rest : NmL (defScope s_law_web) "rest" := .of (by kernel_rfl)
theorem n_law_web__near : NmL (defScope s_law_web) "near" := .of (by kernel_rfl)
theorem n_law_web__there : NmL (defScope s_law_web) "there" := .of (by kernel_rfl)
theorem n_law_web__back : NmL (defScope s_law_web) "back" := .of (by kernel_rfl)
theorem n_law_web__road : NmL (defScope s_law_web) "road" := .of (by kernel_rfl)
theorem n_law_web__range : NmG (defScope s_law_web) "range" := .of (by kernel_rfl)
theorem n_law_web__law_toll : NmG (defScope s_law_web) "_law_toll" := .of (by kernel_rfl)
theorem n_law_web__len : NmG (defScope s_law_web) "len" := .of (by kernel_rfl)

theorem ok_law_web (T : Txt K mg) (hq : Quiet CX) {f : Addr} {fd : FuncData} (D : Df K mg "_law_web" s_law_web ["numbers"] f fd) {f_law_toll : Addr} {fd_law_toll : FuncData} (D_law_toll : Df K mg "_law_toll" s_law_toll ["rest"] f_law_toll fd_law_toll) (G_law_toll : FnOk P w K mg base CX 1 f_law_toll fd_law_toll ["rest"] (sp_law_toll T)) : FnOk P w K mg base CX 2 f fd ["numbers"] (sp_law_web T) := by
  refine D.F.okC sc_law_web (fun vs H Q E h => ?_) (fun cdv A outer s H vs Q E hr h => ?_)
  · obtain ⟨a, ns, rfl, _⟩ := h
    rfl
  · obtain ⟨a, ns, rfl, ha, n25, n1, k⟩ := h
    refine ⟨_, (pss_cons (ps_set (i := 1) sc_law_web.nd rfl (Or.inl n_law_web__head.l) (pe_ix ix_list (pvl 0 n_law_web__numbers) pe_int (fun _ _ => rfl))) (pss_cons (ps_set (i := 2) sc_law_web.nd rfl (Or.inl n_law_web__many.l) (pe_op op_add pe_int (pe_op op_mod (pvl 1 n_law_web__head) pe_int))) (pss_cons (ps_if (pt_cmpR op_eq (pe_op op_mod (pe_op op_fdiv (pvl 1 n_law_web__head) pe_int) pe_int) pe_int (nomark _)) (pss_one (ps_set (i := 2) sc_law_web.nd rfl (Or.inl n_law_web__many.l) (pe_op op_add pe_int (pe_op op_mod (pe_op op_fdiv (pvl 1 n_law_web__head) pe_int) pe_int)))) pss_nil) (pss_cons (ps_set (i := 3) sc_law_web.nd rfl (Or.inl n_law_web__names.l) (pe_lst pa_nil)) (pss_cons (ps_for PassesOwn.never rfl (pi_range1 n_law_web__range.g T.range (pa_cons (pvl 2 n_law_web__many) pa_nil)) (pg_name (i := 4) sc_law_web.nd rfl (Or.inl n_law_web__k.l)) (pss_one (ps_expr (pe_bm PySem.F.plainAttrs_list PySem.F.slot_list_insert PySem.F.type_list_insert mt_insert (pvl 3 n_law_web__names) (pa_cons (pe_op op_mod (pe_ix ix_list (pvl 0 n_law_web__numbers) (pe_op op_add (pvl 4 n_law_web__k) pe_int) (fun _ _ => rfl)) (pe_op op_add (pvl 4 n_law_web__k) pe_int)) (pa_cons (pvl 4 n_law_web__k) pa_nil)))))) (pss_cons (ps_set (i := 5) sc_law_web.nd rfl (Or.inl n_law_web__roads.l) (pe_lst pa_nil)) (pss_cons (ps_for PassesOwn.never rfl (pi_range2 n_law_web__range.g T.range (pa_cons pe_int (pa_cons (pvl 2 n_law_web__many) pa_nil))) (pg_name (i := 4) sc_law_web.nd rfl (Or.inl n_law_web__k.l)) (pss_cons (ps_set (i := 6) sc_law_web.nd rfl (Or.inl n_law_web__rest.l) (pe_op op_fdiv (pe_ix ix_list (pvl 0 n_law_web__numbers) (pe_op op_add (pvl 4 n_law_web__k) pe_int) (fun _ _ => rfl)) (pe_op op_add (pvl 4 n_law_web__k) pe_int))) (pss_cons (ps_set (i := 7) sc_law_web.nd rfl (Or.inl n_law_web__near.l) (pe_ix ix_list (pe_lst (pa_cons (pe_op op_sub (pvl 4 n_law_web__k) pe_int) (pa_cons pe_int (pa_cons (pe_op op_mod (pvl 6 n_law_web__rest) (pvl 4 n_law_web__k)) (pa_cons (pe_op op_mod (pvl 6 n_law_web__rest) (pvl 4 n_law_web__k)) pa_nil))))) (pe_op op_mod (pe_op op_fdiv (pvl 1 n_law_web__head) pe_int) pe_int) (fun _ _ => rfl))) (pss_cons (ps_set (i := 6) sc_law_web.nd rfl (Or.inl n_law_web__rest.l) (pe_op op_fdiv (pvl 6 n_law_web__rest) (pvl 4 n_law_web__k))) (pss_cons (ps_set (i := 8) sc_law_web.nd rfl (Or.inl n_law_web__there.l) (pe_call G_law_toll (hr.mono (by decide)) n_law_web__law_toll.g D_law_toll.m D_law_toll.F.kp D_law_toll.b .nil (passQ hq) (pa_cons (pvl 6 n_law_web__rest) pa_nil) (hdb := n_law_web__law_toll.d))) (pss_cons (ps_set (i := 9) sc_law_web.nd rfl (Or.inl n_law_web__back.l) (pe_call G_law_toll (hr.mono (by decide)) n_law_web__law_toll.g D_law_toll.m D_law_toll.F.kp D_law_toll.b .nil (passQ hq) (pa_cons (pe_op op_fdiv (pvl 6 n_law_web__rest) pe_int) pa_nil) (hdb := n_law_web__law_toll.d))) (pss_cons (ps_if (pt_cmpR op_eq (pe_op op_mod (pe_op op_fdiv (pvl 1 n_law_web__head) pe_int) pe_int) pe_int (nomark _)) (pss_one (ps_set (i := 9) sc_law_web.nd rfl (Or.inl n_law_web__back.l) (pvl 8 n_law_web__there))) pss_nil) (pss_cons (ps_set (i := 6) sc_law_web.nd rfl (Or.inl n_law_web__rest.l) (pe_op op_fdiv (pe_op op_fdiv (pvl 6 n_law_web__rest) pe_int) pe_int)) (pss_cons (ps_set (i := 10) sc_law_web.nd rfl (Or.inl n_law_web__road.l) (pe_tup (pa_cons (pe_ix ix_list (pvl 3 n_law_web__names) (pvl 7 n_law_web__near) (fun _ _ => rfl)) (pa_cons (pe_ix ix_list (pvl 3 n_law_web__names) (pvl 4 n_law_web__k) (fun _ _ => rfl)) (pa_cons (pvl 8 n_law_web__there) (pa_cons (pvl 9 n_law_web__back) pa_nil)))))) (pss_cons (ps_if (pt_cmpR op_eq (pe_op op_mod (pvl 6 n_law_web__rest) pe_int) pe_int (nomark _)) (pss_one (ps_set (i := 10) sc_law_web.nd rfl (Or.inl n_law_web__road.l) (pe_tup (pa_cons (pe_ix ix_list (pvl 3 n_law_web__names) (pvl 4 n_law_web__k) (fun _ _ => rfl)) (pa_cons (pe_ix ix_list (pvl 3 n_law_web__names) (pvl 7 n_law_web__near) (fun _ _ => rfl)) (pa_cons (pvl 9 n_law_web__back) (pa_cons (pvl 8 n_law_web__there) pa_nil))))))) pss_nil) (pss_one (ps_expr (pe_bm PySem.F.plainAttrs_list PySem.F.slot_list_insert PySem.F.type_list_insert mt_insert (pvl 5 n_law_web__roads) (pa_cons (pe_op op_mod (pe_op op_fdiv (pvl 6 n_law_web__rest) pe_int) (pe_op op_add (pe_callB call_len_seq n_law_web__len.g T.len pb_len (pa_cons (pvl 5 n_law_web__roads) pa_nil) (hn := n_law_web__len.n) (hdb := n_law_web__len.d)) pe_int)) (pa_cons (pvl 10 n_law_web__road) pa_nil))))))))))))))) (pss_one (ps_ret (pe_tup (pa_cons (pvl 2 n_law_web__many) (pa_cons (pvl 5 n_law_web__roads) pa_nil)))))))))))), ?_⟩
    rw [show L2.start ["numbers", "head", "many", "names", "k", "roads", "rest", "near", "there", "back", "road"] [V.ref a] = [some (V.ref a), none, none, none, none, none, none, none, none, none, none] from rfl]
    have em : ∀ (x n : Int), 0 < n → 0 ≤ x % n ∧ x % n < n := fun x n h => ⟨Int.emod_nonneg x (Int.ne_of_gt h), Int.emod_lt_of_pos x h⟩
    walk_at "rd"
    refine ixL ha (atG (by decide) (by omega)) ?_
    generalize ns.getD (0 : Int).toNat 0 = c
    refine ⟨_, rfl, by decide, _, rfl, ⟨by decide, by decide⟩, by decide, ?_⟩
    have h1 := em c 7 (by decide)
    have h2 := em (c / 70) 17 (by decide)
    have h3 := em (c / 1190) 4 (by decide)
    apply if_join (8 + c / 70 % 17) (1 + c % 7)
    · generalize 1 + c % 7 = m
      intro h
      exact h
    · exact fun h => ⟨_, rfl, ⟨by decide, by decide⟩, by decide, h⟩
    intro m hm
    have m1 : 1 ≤ m := by omega
    have m24 : m ≤ 24 := by omega
    clear hm
    refine ⟨by decide, fun la nla => ⟨by omega, by omega, ?_⟩⟩
    refine for_rangeN (fun i σ H2 => Same H H2 ∧ (∃ row, H2 la = some (.lst (row.map V.int)) ∧ Labels i row) ∧ ∃ v, σ = [some (V.ref a), some (V.int c), some (V.int m), some (V.ref la), v, none, none, none, none, none, none]) ⟨Same.new _ nla, ⟨[], upd_same, .nil⟩, _, rfl⟩ ?_ ?_
    · rintro i σ H2 N hN hi ⟨s2, ⟨row, e2, L⟩, v, rfl⟩
      rw [Int.zero_add]
      have ll := L.len
      walk_at "rd"
      refine ⟨tyL e2, ixL (s2 _ _ ha) (atG (by omega) (by omega)) ⟨_, rfl, by omega, ?_⟩⟩
      have q := em (ns.getD ((i : Int) + 1).toNat 0) ((i : Int) + 1) (by omega)
      generalize ns.getD ((i : Int) + 1).toNat 0 % ((i : Int) + 1) = w at q ⊢
      refine insR e2 q.1 (by rw [List.length_map]; omega) (small (by rw [List.length_map]; omega)) ?_
      refine hN _ _ ⟨s2.put nla _, ⟨_, ?_, L.put w.toNat (by omega)⟩, _, rfl⟩
      rw [upd_same, List.map_append, List.map_cons, List.map_take, List.map_drop]
    · rintro σ H2 ⟨s2, ⟨ls, e2, L⟩, v, rfl⟩
      walk_at "rd"
      have L' : Labels m.toNat ls := L
      have ll := L'.len
      refine ⟨by decide, fun lo nlo => ⟨1, m, ⟨rfl, rfl⟩, ⟨by decide, by decide, by omega, by omega⟩, ?_⟩⟩
      have nlo0 := s2.free nlo
      have nll : la ≠ lo := fun z => by rw [← z, e2] at nlo; cases nlo
      refine for_rangeN (fun i σ H3 => ∃ (ps : List Addr) (rs : List Road) (rows : List Row) (v4 v6 v7 v8 v9 v10 : Option V), σ = [some (V.ref a), some (V.int c), some (V.int m), some (V.ref la), v4, some (V.ref lo), v6, v7, v8, v9, v10] ∧ Same H H3 ∧ H3 la = some (.lst (ls.map V.int)) ∧ H3 lo = some (.lst (ps.map V.ref)) ∧ RoadsAt H3 ps rs ∧ Rows i rows ∧ Put ls rows rs) ⟨[], [], [], _, _, _, _, _, _, rfl, s2.trans (Same.new _ nlo), Same.new _ nlo _ _ e2, upd_same, .nil, ⟨rfl, fun i r h => by cases h⟩, Put.nil _⟩ ?_ ?_
      · rintro i σ H3 N hN hi ⟨ps, rs, rows, v4, v6, v7, v8, v9, v10, rfl, s3, l3, o3, ro3, R, P⟩
        have k0 : (1 : Int) ≤ 1 + (i : Int) := by omega
        have k1 : 1 + (i : Int) < m := by omega
        generalize hk : (1 : Int) + (i : Int) = kk at k0 k1 ⊢
        have psl : ps.length = rs.length := Paired.length ro3
        have rl := R.len
        have pl := P.len
        walk_at "rd"
        refine ixL (s3 _ _ ha) (atG (by omega) (by omega)) ⟨_, rfl, ⟨by omega, by omega⟩, by omega, by omega, smallE (by simp), fun q1 nq1 => ⟨⟨by decide, by decide⟩, by decide, ?_⟩⟩
        generalize ns.getD (kk + 1).toNat 0 / (kk + 1) = w
        have hg := em w kk (by omega)
        obtain ⟨un, hun, u0, u1⟩ : ∃ un : Int, atI [V.int (kk - 1), V.int 0, V.int (w % kk), V.int (w % kk)] (c / 1190 % 4) = some (.int un) ∧ 0 ≤ un ∧ un < kk := by
          rcases (show c / 1190 % 4 = 0 ∨ c / 1190 % 4 = 1 ∨ c / 1190 % 4 = 2 ∨ c / 1190 % 4 = 3 by omega) with z | z | z | z
          · exact ⟨_, by rw [z]; rfl, by omega, by omega⟩
          · exact ⟨_, by rw [z]; rfl, by omega, by omega⟩
          · exact ⟨_, by rw [z]; rfl, hg.1, hg.2⟩
          · exact ⟨_, by rw [z]; rfl, hg.1, hg.2⟩
        have s4 := Same.new (.lst [.int (kk - 1), .int 0, .int (w % kk), .int (w % kk)]) nq1
        refine ixL upd_same hun ?_
        generalize upd H3 q1 (.lst [.int (kk - 1), .int 0, .int (w % kk), .int (w % kk)]) = H4 at s4 ⊢
        refine ⟨⟨by omega, by omega⟩, _, rfl, fun th t0 t1 => ⟨⟨by decide, by decide⟩, _, rfl, fun bk b0 b1 => ⟨⟨by decide, by decide⟩, by decide, ?_⟩⟩⟩
        have gk : atI (ls.map V.int) kk = some (.int (ls.getD kk.toNat 0)) := atI_int (by omega) (by rw [List.getElem?_map, getD_of L' (by omega)]; rfl)
        have gu : atI (ls.map V.int) un = some (.int (ls.getD un.toNat 0)) := atI_int u0 (by rw [List.getElem?_map, getD_of L' (by omega)]; rfl)
        have l4 := s4 _ _ l3
        generalize w / kk / 7999992 / 7999992 = rest
        have put : ∀ (H7 : Hp) (q : Addr) (row : Row) (v8 v9 : Option V), Same H3 H7 → row.k = kk → RowOk row → H7 q = some (.tup (vRoad (roadOf ls row))) → tyV K "list" (V.ref lo) H7 ∧ CDiv rest 2 ∧ ∃ x, (SqL K H7 lo x ∨ SqT K H7 lo x) ∧ 0 < (x.length : Int) + 1 ∧ rInsert (V.ref lo) [V.int (rest / 2 % ((x.length : Int) + 1)), V.ref q] H7 fun _ H8 => N [some (V.ref a), some (V.int c), some (V.int m), some (V.ref la), some (V.int kk), some (V.ref lo), some (V.int rest), some (V.int un), v8, v9, some (V.ref q)] H8 := by
          intro H7 q row v8 v9 s7 rk rok hq
          have o7 := s7 _ _ o3
          have pe := em (rest / 2) (((ps.map V.ref).length : Int) + 1) (by omega)
          refine ⟨tyL o7, ⟨by decide, by decide⟩, ps.map V.ref, .inl (SqL.of o7), by omega, insR o7 pe.1 (by omega) (small (by rw [List.length_map]; omega)) ?_⟩
          generalize (rest / 2 % (((ps.map V.ref).length : Int) + 1)).toNat = n
          have keep : ∀ {zs : List V} {q : Addr} {r' : Road}, H7 q = some (.tup (vRoad r')) → upd H7 lo (.lst zs) q = some (.tup (vRoad r')) := fun {zs q r'} h => by rw [upd_ne (ne_of h o7 (by intro z; cases z))]; exact h
          refine hN _ _ ⟨ps.take n ++ q :: ps.drop n, rs.take n ++ roadOf ls row :: rs.drop n, rows ++ [row], _, _, _, _, _, _, rfl, (s3.trans s7).put nlo0 _, by rw [upd_ne nll]; exact s7 _ _ l3, by rw [upd_same, List.map_append, List.map_cons, List.map_take, List.map_drop], ?_, rows_snoc R (by omega) rok, P.step row n⟩
          exact pr_ins n (Paired.imp' (fun p r h => keep h) (RoadsAt.same s7 ro3)) (keep hq)
        have okR : ∀ (x y z : Int), 2 ≤ x → x ≤ 1000000 → 2 ≤ y → y ≤ 1000000 → RowOk ⟨kk, un, x, y, z, 0⟩ := fun x y z a b c d => ⟨u0, u1, a, b, c, d, Int.le_refl _, by show (0 : Int) < kk; omega⟩
        have e1 : ∀ x y : Int, vRoad (roadOf ls ⟨kk, un, x, y, 1, 0⟩) = [V.int (ls.getD un.toNat 0), V.int (ls.getD kk.toNat 0), V.int x, V.int y] := fun x y => by unfold roadOf; rw [if_pos rfl]; rfl
        have e2' : ∀ x y : Int, vRoad (roadOf ls ⟨kk, un, x, y, 0, 0⟩) = [V.int (ls.getD kk.toNat 0), V.int (ls.getD un.toNat 0), V.int x, V.int y] := fun x y => by unfold roadOf; rw [if_neg (show ¬ (0 : Int) = 1 by decide)]; rfl
        by_cases y1 : c / 4760 % 3 = 0
        · rw [if_pos y1]
          refine ⟨⟨by decide, by decide⟩, ⟨by decide, by decide⟩, ixL l4 gu (ixL l4 gk ⟨smallE (by simp), fun q2 nq2 => ⟨by decide, ?_⟩⟩)⟩
          have s5 := s4.trans (Same.new (.tup [V.int (ls.getD un.toNat 0), V.int (ls.getD kk.toNat 0), V.int th, V.int th]) nq2)
          have l5 := s5 _ _ l3
          by_cases y2 : rest % 2 = 1
          · rw [if_pos y2]
            exact ixL l5 gk (ixL l5 gu ⟨smallE (by simp), fun q3 nq3 => put _ q3 ⟨kk, un, th, th, 0, 0⟩ _ _ (s5.trans (Same.new _ nq3)) rfl (okR _ _ _ t0 t1 t0 t1) (by rw [upd_same, e2'])⟩)
          · rw [if_neg y2]
            exact put _ q2 ⟨kk, un, th, th, 1, 0⟩ _ _ s5 rfl (okR _ _ _ t0 t1 t0 t1) (by rw [upd_same, e1])
        · rw [if_neg y1]
          refine ⟨⟨by decide, by decide⟩, ⟨by decide, by decide⟩, ixL l4 gu (ixL l4 gk ⟨smallE (by simp), fun q2 nq2 => ⟨by decide, ?_⟩⟩)⟩
          have s5 := s4.trans (Same.new (.tup [V.int (ls.getD un.toNat 0), V.int (ls.getD kk.toNat 0), V.int th, V.int bk]) nq2)
          have l5 := s5 _ _ l3
          by_cases y2 : rest % 2 = 1
          · rw [if_pos y2]
            exact ixL l5 gk (ixL l5 gu ⟨smallE (by simp), fun q3 nq3 => put _ q3 ⟨kk, un, bk, th, 0, 0⟩ _ _ (s5.trans (Same.new _ nq3)) rfl (okR _ _ _ b0 b1 t0 t1) (by rw [upd_same, e2'])⟩)
          · rw [if_neg y2]
            exact put _ q2 ⟨kk, un, th, bk, 1, 0⟩ _ _ s5 rfl (okR _ _ _ t0 t1 b0 b1) (by rw [upd_same, e1])
      · rintro σ H3 ⟨ps, rs, rows, v4, v6, v7, v8, v9, v10, rfl, s3, l3, o3, ro3, R, P⟩
        have g := good_of (n := m.toNat) (by omega) (by omega) L' (by rw [show m.toNat - 1 = (m - 1).toNat by omega]; exact R) P
        rw [Int.toNat_of_nonneg (by omega)] at g
        walk_at "rd"
        refine ⟨smallE (by simp), fun t nt => ?_⟩
        have s5 := Same.new (.tup [.int m, .ref lo]) nt
        exact k t lo m ps rs _ (s3.free nt) nlo0 (s3.trans s5) upd_same (s5 _ _ o3) (RoadsAt.same s5 ro3) g
/-! #### _law_whole -/
def sp_law_whole (T : Txt K mg) : Sp := fun vs H Q _ => ∃ i : Int, vs = [.int i] ∧ Q (.bl true) H
abbrev s_law_whole : Stmt := top 35
theorem sc_law_whole : FnScope ["found"] ["found"] (defScope s_law_whole) := FnScope.of (by kernel_rfl)
theorem n_law_whole__found : NmL (defScope s_law_whole) "found" := .of (by kernel_rfl)
theorem n_law_whole__isinstance : NmG (defScope s_law_whole) "isinstance" := .of (by kernel_rfl)
theorem n_law_whole__int : NmG (defScope s_law_whole) "int" := .of (by kernel_rfl)
theorem n_law_whole__bool : NmG (defScope s_law_whole) "bool" := .of (by kernel_rfl)

theorem ok_law_whole (T : Txt K mg) (hq : Quiet CX) {f : Addr} {fd : FuncData} (D : Df K mg "_law_whole" s_law_whole ["found"] f fd) : FnOk P w K mg base CX 1 f fd ["found"] (sp_law_whole T) := by
  refine D.F.okC sc_law_whole (fun vs H Q E h => ?_) (fun cdv A outer s H vs Q E hr h => ?_)
  · obtain ⟨i, rfl, _⟩ := h
    rfl
  · obtain ⟨i, rfl, k⟩ := h
    refine ⟨_, (pss_one (ps_ret (pe_and (pe_callB call_isinst n_law_whole__isinstance.g T.isinstance pb_isinstance (pa_cons (pvl 0 n_law_whole__found) (pa_cons (pe_bltn (v := .ty "int") n_law_whole__int.g T.int pb_int rfl (hn := n_law_whole__int.n) (hd := n_law_whole__int.d)) pa_nil)) (hn := n_law_whole__isinstance.n) (hdb := n_law_whole__isinstance.d)) (pe_one (pe_not (pe_callB call_isinst n_law_whole__isinstance.g T.isinstance pb_isinstance (pa_cons (pvl 0 n_law_whole__found) (pa_cons (pe_bltn (v := .ty "bool") n_law_whole__bool.g T.bool pb_bool rfl (hn := n_law_whole__bool.n) (hd := n_law_whole__bool.d)) pa_nil)) (hn := n_law_whole__isinstance.n) (hdb := n_law_whole__isinstance.d))))))), ?_⟩
    rw [show L2.start ["found"] [V.int i] = [some (V.int i)] from rfl]
    walk_at "rd"
    refine ⟨_, _, _, true, rfl, .int i, fun cv h => by cases h; rfl, _, rfl, ?_⟩
    rw [if_pos rfl]
    refine ⟨_, _, _, false, rfl, .int i, fun cv h => by cases h; rfl, _, rfl, ?_⟩
    exact k
/-! #### _law_wholes -/
def sp_law_wholes (T : Txt K mg) : Sp := fun vs H Q _ => ∃ (a b : Addr) (c : Bool) (xs : List Int), vs = [.ref a, .ref b] ∧ SqX K c H a (xs.map V.int) ∧ SqX K c H b (xs.map V.int) ∧ xs.length ≤ 1000 ∧ ∀ H', Same H H' → Q (.bl true) H'
abbrev s_law_wholes : Stmt := top 36
theorem sc_law_wholes : FnScope ["found", "due"] ["found", "due"] (defScope s_law_wholes) := FnScope.of (by kernel_rfl)
theorem n_law_wholes__found : NmC (defScope s_law_wholes) "found" := .of (by kernel_rfl)
theorem n_law_wholes__due : NmC (defScope s_law_wholes) "due" := .of (by kernel_rfl)
theorem n_law_wholes__len : NmG (defScope s_law_wholes) "len" := .of (by kernel_rfl)
theorem n_law_wholes__all : NmG (defScope s_law_wholes) "all" := .of (by kernel_rfl)
theorem n_law_wholes__range : NmG (defScope s_law_wholes) "range" := .of (by kernel_rfl)

theorem ok_law_wholes (T : Txt K mg) (hq : Quiet CX) {f : Addr} {fd : FuncData} (D : Df K mg "_law_wholes" s_law_wholes ["found", "due"] f fd) {f_law_whole : Addr} {fd_law_whole : FuncData} (D_law_whole : Df K mg "_law_whole" s_law_whole ["found"] f_law_whole fd_law_whole) (G_law_whole : FnOk P w K mg base CX 1 f_law_whole fd_law_whole ["found"] (sp_law_whole T)) : FnOk P w K mg base CX 2 f fd ["found", "due"] (sp_law_wholes T) := by
  refine D.F.okC sc_law_wholes (fun vs H Q E h => ?_) (fun cdv A outer s H vs Q E hr h => ?_)
  · obtain ⟨a, b, c, xs, rfl, _⟩ := h
    rfl
  · obtain ⟨a, b, c, xs, rfl, ha, hb, hz, k⟩ := h
    have lx : ∀ {p : Addr}, SqX K c H p (xs.map V.int) → SqL K H p (xs.map V.int) ∨ SqT K H p (xs.map V.int) := fun {p} h => by
      cases c
      · exact .inr h
      · exact .inl h
    refine ⟨_, (pss_cons (ps_if (pt_cmpR op_ne (pe_callB call_len_seq n_law_wholes__len.g T.len pb_len (pa_cons (pvc 0 n_law_wholes__found) pa_nil) (hn := n_law_wholes__len.n) (hdb := n_law_wholes__len.d)) (pe_callB call_len_seq n_law_wholes__len.g T.len pb_len (pa_cons (pvc 1 n_law_wholes__due) pa_nil) (hn := n_law_wholes__len.n) (hdb := n_law_wholes__len.d)) (nomark _)) (pss_one (ps_ret pe_bl)) pss_nil) (pss_one (ps_ret (pe_callB (call_all rfl) n_law_wholes__all.g T.all pb_all (pa_cons (pe_comp rfl (ct_clos (Nc := ["k", "found", "due"]) 1 [0, 1] (by decide +kernel) rfl (by decide +kernel) rfl (by show ∀ (y : Str × NameKind), y ∈ _ → y.2 = NameKind.free → (defScope s_law_wholes).names.lookup y.1 = some NameKind.cell; decide +kernel) rfl (fun _ h => cell_has h) (fun i hi => match i, hi with | 0, _ => ⟨"found", 0, rfl, rfl, rfl, by decide +kernel⟩ | 1, _ => ⟨"due", 1, rfl, rfl, rfl, by decide +kernel⟩ | i + 2, hi => absurd hi (by show ¬ i + 2 < 2; omega))) (pi_range1 n_law_wholes__range.g T.range (pa_cons (pe_callB call_len_seq n_law_wholes__len.g T.len pb_len (pa_cons (pvc 1 n_law_wholes__due) pa_nil) (hn := n_law_wholes__len.n) (hdb := n_law_wholes__len.d)) pa_nil)) (fun _ _ _ _ => (pg_name (i := 0) (show (["k", "found", "due"] : List Str).Nodup from by decide +kernel) rfl (Or.inl rfl))) (fun _ _ _ _ => pts_nil) (fun _ _ _ _ => (pe_and (pe_call G_law_whole (hr.mono (by decide)) (by rfl) D_law_whole.m D_law_whole.F.kp D_law_whole.b .nil (passQ hq) (pa_cons (pe_ix (ix_anyK c K rfl) (pv 1) (pv 0) (fun _ _ => rfl)) pa_nil)) (pe_one (pe_cmpR op_eq (pe_ix (ix_anyK c K rfl) (pv 1) (pv 0) (fun _ _ => rfl)) (pe_ix (ix_anyK c K rfl) (pv 2) (pv 0) (fun _ _ => rfl)) (nomark _)))))) pa_nil) (hn := n_law_wholes__all.n) (hdb := n_law_wholes__all.d))))), ?_⟩
    rw [show L2.start ["found", "due"] [V.ref a, V.ref b] = [some (V.ref a), some (V.ref b)] from rfl]
    walk_at "rd"
    refine ⟨_, lx ha, _, lx hb, ?_⟩
    rw [if_neg (fun z => z rfl)]
    refine ⟨_, lx hb, ?_⟩
    rw [List.length_map]
    refine ⟨by omega, by omega, fun pc npc => ?_⟩
    refine comp_range (fun i zs σ H3 => Same H H3 ∧ H3 pc = some (.lst zs) ∧ (∃ bs : List Bool, zs = bs.map V.bl ∧ bs.length = i ∧ bs.all id = true) ∧ ∃ v, σ = [v, some (V.ref a), some (V.ref b)]) ⟨Same.new _ npc, upd_same, ⟨[], rfl, rfl, rfl⟩, _, rfl⟩ ?_ ?_
    · rintro i zs σ H3 N hN hi ⟨s3, e3, ⟨bs, rfl, bl, ba⟩, v, rfl⟩
      rw [Int.zero_add]
      have gi := atG (xs := xs) (i := (i : Int)) (by omega) (by omega)
      walk_at "rd"
      refine ixX (Same.sqX s3 ha) gi ⟨_, rfl, ?_⟩
      refine ⟨_, rfl, ?_⟩
      rw [if_pos rfl]
      refine ixX (Same.sqX s3 ha) gi (ixX (Same.sqX s3 hb) gi ⟨rfl, e3, small (by rw [List.length_map]; omega), hN _ _ _ ⟨s3.put npc _, upd_same, ⟨bs ++ [true], by rw [decide_eq_true rfl, List.map_append]; rfl, by rw [List.length_append, bl]; rfl, by rw [List.all_append, ba]; rfl⟩, _, rfl⟩⟩)
    · rintro zs σ H3 ⟨s3, e3, ⟨bs, rfl, bl, ba⟩, v, rfl⟩
      refine ⟨pc, rfl, bs, SqL.of e3, ?_⟩
      rw [ba]
      exact k H3 s3
/-! #### _law_words -/
def sp_law_words (T : Txt K mg) : Sp := fun vs H Q _ => ∃ (a : Addr) (c : Bool) (ns : List Nat), vs = [.ref a] ∧ AtX c H a (vNs ns) ∧ ns.length ≤ 100 ∧ (∀ n ∈ ns, n < 2 ^ 4000) ∧ ∀ H', Same H H' → Q (.str (wds ns)) H'
abbrev s_law_words : Stmt := top 38
theorem sc_law_words : FnScope ["road"] ["road"] (defScope s_law_words) := FnScope.of (by kernel_rfl)
theorem n_law_words__road : NmL (defScope s_law_words) "road" := .of (by kernel_rfl)

theorem ok_law_words (T : Txt K mg) (hq : Quiet CX) {f : Addr} {fd : FuncData} (D : Df K mg "_law_words" s_law_words ["road"] f fd) {f_law_figures : Addr} {fd_law_figures : FuncData} (D_law_figures : Df K mg "_law_figures" s_law_figures ["number"] f_law_figures fd_law_figures) (G_law_figures : FnOk P w K mg base CX 1 f_law_figures fd_law_figures ["number"] (sp_law_figures T)) : FnOk P w K mg base CX 2 f fd ["road"] (sp_law_words T) := by
  refine D.F.okC sc_law_words (fun vs H Q E h => ?_) (fun cdv A outer s H vs Q E hr h => ?_)
  · obtain ⟨a, c, ns, rfl, _⟩ := h
    rfl
  · obtain ⟨a, c, ns, rfl, ha, hl, nb, k⟩ := h
    refine ⟨_, (pss_one (ps_ret (pe_bm PySem.F.plainAttrs_str PySem.F.slot_str_join PySem.F.type_str_join mt_join pe_str (pa_cons (pe_comp rfl (ct_plain (Nc := ["part"]) 1 (by decide +kernel) (by decide +kernel) rfl (by decide +kernel) rfl) (pi_any c (pvl 0 n_law_words__road)) (fun _ _ _ _ => (pg_name (i := 0) (show (["part"] : List Str).Nodup from by decide +kernel) rfl (Or.inl rfl))) (fun _ _ _ _ => pts_nil) (fun _ _ _ _ => (pe_call G_law_figures (hr.mono (by decide)) (by rfl) D_law_figures.m D_law_figures.F.kp D_law_figures.b .nil (passQ hq) (pa_cons (pv 0) pa_nil)))) pa_nil)))), ?_⟩
    rw [show L2.start ["road"] [V.ref a] = [some (V.ref a)] from rfl]
    walk_at "rd"
    have lv : (vNs ns).length = ns.length := List.length_map ..
    refine ⟨by simp [tyV], ⟨_, ha.sq⟩, fun p hp => ?_⟩
    refine comp_any (K := K) (xs := vNs ns) (fun i ys σ H2 => Same H H2 ∧ H2 p = some (.lst ys) ∧ ys = (ns.take i).map (fun n => V.str (FS n)) ∧ ∃ v, σ = [v]) ⟨Same.new _ hp, upd_same, by simp, _, rfl⟩ (fun i ys σ H2 _ ⟨z, _⟩ => Same.sqX z ha.sq) ?_ ?_
    · rintro i x ys σ H2 N hN hi ⟨s2, h2, rfl, v, rfl⟩
      obtain ⟨n, hn, rfl⟩ := List.getElem?_map_some hi
      have et : ns.take (i + 1) = ns.take i ++ [n] := by rw [List.take_succ, hn]; rfl
      have hil : i < ns.length := (List.getElem?_eq_some_iff.mp hn).1
      walk_at "rd"
      refine ⟨n, rfl, nb n (List.mem_of_getElem? hn), h2, small (by rw [List.length_map, List.length_take]; omega), hN _ _ _ ⟨s2.put hp _, upd_same, ?_, _, rfl⟩⟩
      · rw [et, List.map_append]; rfl
    · rintro ys σ H2 ⟨s2, h2, rfl, v, rfl⟩
      rw [lv, List.take_length] at h2
      have em : ns.map (fun n => V.str (FS n)) = (ns.map FS).map V.str := by rw [List.map_map]; rfl
      refine ⟨_, p, ns.map FS, rfl, rfl, ?_, ?_, k _ s2⟩
      · rw [← em]; exact SqL.of h2
      · exact wds_ok nb hl
/-! #### check_end -/
def sp_check_end (T : Txt K mg) : Sp := fun vs H Q _ => ∃ (l : Addr) (xs : List V) (i : Int), vs = [.ref l, .int i] ∧ H l = some (.lst xs) ∧ (xs.length : Int) ≤ i ∧ Q .non H
abbrev s_check_end : Stmt := top 28
theorem sc_check_end : FnScope ["rows", "last"] ["rows", "last"] (defScope s_check_end) := FnScope.of (by kernel_rfl)
theorem n_check_end__rows : NmL (defScope s_check_end) "rows" := .of (by kernel_rfl)
theorem n_check_end__last : NmL (defScope s_check_end) "last" := .of (by kernel_rfl)
theorem n_check_end__len : NmG (defScope s_check_end) "len" := .of (by kernel_rfl)
theorem n_check_end__BadText : NmG (defScope s_check_end) "BadText" := .of (by kernel_rfl)

theorem ok_check_end (T : Txt K mg) (hq : Quiet CX) {f : Addr} {fd : FuncData} (D : Df K mg "check_end" s_check_end ["rows", "last"] f fd) : FnOk P w K mg base CX 1 f fd ["rows", "last"] (sp_check_end T) := by
  refine D.F.okC sc_check_end (fun vs H Q E h => ?_) (fun cdv A outer s H vs Q E hr h => ?_)
  · obtain ⟨l, xs, i, rfl, _⟩ := h
    rfl
  · obtain ⟨l, xs, i, rfl, hl, le, k⟩ := h
    refine ⟨_, (pss_one (ps_if (pt_cmpR op_gt (pe_callB call_len_seq n_check_end__len.g T.len pb_len (pa_cons (pvl 0 n_check_end__rows) pa_nil) (hn := n_check_end__len.n) (hdb := n_check_end__len.d)) (pvl 1 n_check_end__last) (nomark _)) (pss_one ps_never) pss_nil)), ?_⟩
    rw [show L2.start ["rows", "last"] [V.ref l, V.int i] = [some (V.ref l), some (V.int i)] from rfl]
    walk_at "rd"
    refine ⟨xs, .inl (SqL.of hl), ?_⟩
    rw [if_neg (by omega)]
    exact k
/-! #### is_number -/
def sp_is_number (T : Txt K mg) : Sp := fun vs H Q _ => ∃ n : Nat, vs = [.str (FS n)] ∧ n < 10 ^ 60 ∧ ∀ H', Same H H' → Q (.bl true) H'
abbrev s_is_number : Stmt := top 27
theorem sc_is_number : FnScope ["word"] ["word"] (defScope s_is_number) := FnScope.of (by kernel_rfl)
theorem n_is_number__word : NmL (defScope s_is_number) "word" := .of (by kernel_rfl)
theorem n_is_number__len : NmG (defScope s_is_number) "len" := .of (by kernel_rfl)
theorem n_is_number__MOST_FIGURES : NmG (defScope s_is_number) "MOST_FIGURES" := .of (by kernel_rfl)
theorem n_is_number__all : NmG (defScope s_is_number) "all" := .of (by kernel_rfl)

theorem ok_is_number (T : Txt K mg) (hq : Quiet CX) {f : Addr} {fd : FuncData} (D : Df K mg "is_number" s_is_number ["word"] f fd) : FnOk P w K mg base CX 1 f fd ["word"] (sp_is_number T) := by
  refine D.F.okC sc_is_number (fun vs H Q E h => ?_) (fun cdv A outer s H vs Q E hr h => ?_)
  · obtain ⟨n, rfl, _⟩ := h
    rfl
  · obtain ⟨n, rfl, nb, k⟩ := h
    refine ⟨_, (pss_cons (ps_if (PW.pt (pw_or (pt_not (pt_chain op_le op_le pe_int (pe_callB call_len_str n_is_number__len.g T.len pb_len (pa_cons (pvl 0 n_is_number__word) pa_nil) (hn := n_is_number__len.n) (hdb := n_is_number__len.d)) (pe_globI n_is_number__MOST_FIGURES.g T.c_MOST_FIGURES (hd := n_is_number__MOST_FIGURES.d)))) (pw_or1 (pt_not (pt_val (pe_callB (call_all rfl) n_is_number__all.g T.all pb_all (pa_cons (pe_comp rfl (ct_plain (Nc := ["sign"]) 1 (by decide +kernel) (by decide +kernel) rfl (by decide +kernel) rfl) (pi_str (pvl 0 n_is_number__word)) (fun _ _ _ _ => (pg_name (i := 0) (show (["sign"] : List Str).Nodup from by decide +kernel) rfl (Or.inl rfl))) (fun _ _ _ _ => pts_nil) (fun _ _ _ _ => (pe_cmpR op_in_str (pv 0) (pe_globS (by rfl) T.c_FIGURES) (by with_unfolding_all rfl)))) pa_nil) (hn := n_is_number__all.n) (hdb := n_is_number__all.d))))))) (pss_one (ps_ret pe_bl)) pss_nil) (pss_one (ps_ret (pe_or (pe_cmpR op_eq (pvl 0 n_is_number__word) pe_str (nomark _)) (pe_one (pe_cmpR op_ne (pe_ix ix_str (pvl 0 n_is_number__word) pe_int (fun _ _ => rfl)) pe_str (nomark _))))))), ?_⟩
    rw [show L2.start ["word"] [V.str (FS n)] = [some (V.str (FS n))] from rfl]
    refine cutS fun N1 h1 => ?_
    walk_at "rd"
    have l60 : (figs n).length ≤ 60 := figs_len 59 n nb
    have l1 : 1 ≤ (figs n).length := by
      have := figs_ne n
      cases hh : figs n with
      | nil => exact absurd hh this
      | cons _ _ => simp
    have ln : (FS n).length = (figs n).length := by rw [len_list]; rfl
    refine ⟨FS n, rfl, by rw [ln]; exact Nat.le_trans l60 (by decide), ?_⟩
    rw [ln, if_pos (by omega), if_neg (by omega)]
    refine ⟨FS n, rfl, figs_ascii n, fun p hp => ?_⟩
    refine comp_str (fun i ys σ H2 => Same H H2 ∧ H2 p = some (.lst ys) ∧ ys = List.replicate i (V.bl true) ∧ ∃ v, σ = [v]) ⟨Same.new _ hp, upd_same, rfl, _, rfl⟩ ?_ ?_
    · rintro i c ys σ H2 N hN hi ⟨s2, h2, rfl, v, rfl⟩
      have hd := figs_all n c (List.mem_of_getElem? hi)
      have hil : i < (figs n).length := (List.getElem?_eq_some_iff.mp hi).1
      walk_at "rd"
      refine ⟨_, rfl, _, rfl, h2, small (by rw [List.length_replicate]; omega), ?_⟩
      rw [inTen hd]
      refine hN _ _ _ ⟨?_, upd_same, ?_, _, rfl⟩
      · exact fun b o e => by rw [upd_ne (ne_of_none e hp)]; exact s2 _ _ e
      · rw [List.replicate_succ']
    · rintro ys σ H2 ⟨s2, h2, rfl, v, rfl⟩
      refine ⟨p, rfl, List.replicate _ true, by rw [List.map_replicate]; exact SqL.of h2, ?_⟩
      rw [if_neg (by simp)]
      refine h1 _ _ ?_
      walk_at "rd"
      by_cases c0 : V.str (FS n) = V.str (Str.ofString "0")
      · rw [if_pos c0]
        exact k _ s2
      · rw [if_neg c0]
        obtain ⟨c, r, ec, hc⟩ := figs_head n (figs_zero c0)
        refine ixS (i := 0) l60 (by rw [FS_list, ec]; rfl) ⟨rfl, ?_⟩
        rw [show decide (V.str ⟨#[c]⟩ = V.str (Str.ofString "0")) = false from decide_eq_false fun z => hc (by injection z with z; exact (List.cons.inj (show [c] = [48] from congrArg (fun s : Str => s.cps.toList) z)).1)]
        exact k _ s2
/-! #### read_number -/
def sp_read_number (T : Txt K mg) : Sp := fun vs H Q _ => ∃ (n : Nat) (i : Int), vs = [.str (FS n), .int i] ∧ n < 10 ^ 60 ∧ ∀ H', Same H H' → Q (.int n) H'
abbrev s_read_number : Stmt := top 26
theorem sc_read_number : FnScope ["word", "at"] ["word", "at"] (defScope s_read_number) := FnScope.of (by kernel_rfl)
theorem n_read_number__word : NmL (defScope s_read_number) "word" := .of (by kernel_rfl)
theorem n_read_number__at : NmL (defScope s_read_number) "at" := .of (by kernel_rfl)
theorem n_read_number__is_number : NmG (defScope s_read_number) "is_number" := .of (by kernel_rfl)
theorem n_read_number__BadText : NmG (defScope s_read_number) "BadText" := .of (by kernel_rfl)
theorem n_read_number__int : NmG (defScope s_read_number) "int" := .of (by kernel_rfl)

theorem ok_read_number (T : Txt K mg) (hq : Quiet CX) {f : Addr} {fd : FuncData} (D : Df K mg "read_number" s_read_number ["word", "at"] f fd) {f_is_number : Addr} {fd_is_number : FuncData} (D_is_number : Df K mg "is_number" s_is_number ["word"] f_is_number fd_is_number) (G_is_number : FnOk P w K mg base CX 1 f_is_number fd_is_number ["word"] (sp_is_number T)) : FnOk P w K mg base CX 2 f fd ["word", "at"] (sp_read_number T) := by
  refine D.F.okC sc_read_number (fun vs H Q E h => ?_) (fun cdv A outer s H vs Q E hr h => ?_)
  · obtain ⟨n, i, rfl, _⟩ := h
    rfl
  · obtain ⟨n, i, rfl, nb, k⟩ := h
    refine ⟨_, (pss_cons (ps_if (pt_not (pt_val (pe_call G_is_number (hr.mono (by decide)) n_read_number__is_number.g D_is_number.m D_is_number.F.kp D_is_number.b .nil (passQ hq) (pa_cons (pvl 0 n_read_number__word) pa_nil) (hdb := n_read_number__is_number.d)))) (pss_one ps_never) pss_nil) (pss_one (ps_ret (pe_callTy call_intT n_read_number__int.g T.int pb_int (pa_cons (pvl 0 n_read_number__word) pa_nil) (hn := n_read_number__int.n) (hdb := n_read_number__int.d))))), ?_⟩
    rw [show L2.start ["word", "at"] [V.str (FS n), V.int i] = [some (V.str (FS n)), some (V.int i)] from rfl]
    walk_at "rd"
    have l60 : (figs n).length ≤ 60 := figs_len 59 n nb
    have ln : (FS n).length = (figs n).length := by rw [len_list]; rfl
    refine ⟨n, rfl, nb, fun H' s1 => ⟨true, rfl, ?_⟩⟩
    rw [if_neg (by simp)]
    exact ⟨FS n, rfl, n, int_back n nb, by omega, k _ s1⟩
/-! #### read_words -/
def sp_read_words (T : Txt K mg) : Sp := fun vs H Q _ => ∃ (l : Addr) (ns : List Nat) (i : Int), vs = [.ref l, .int ns.length, .int i] ∧ H l = some (.lst ((ns.map FS).map V.str)) ∧ ns.length ≤ 100 ∧ (∀ n ∈ ns, n < 10 ^ 60) ∧ ∀ p H', H p = none → Same H H' → H' p = some (.lst (vNs ns)) → Q (.ref p) H'
abbrev s_read_words : Stmt := top 25
theorem sc_read_words : FnScope ["words", "many", "at"] ["words", "many", "at"] (defScope s_read_words) := FnScope.of (by kernel_rfl)
theorem n_read_words__words : NmL (defScope s_read_words) "words" := .of (by kernel_rfl)
theorem n_read_words__many : NmL (defScope s_read_words) "many" := .of (by kernel_rfl)
theorem n_read_words__at : NmC (defScope s_read_words) "at" := .of (by kernel_rfl)
theorem n_read_words__len : NmG (defScope s_read_words) "len" := .of (by kernel_rfl)
theorem n_read_words__BadText : NmG (defScope s_read_words) "BadText" := .of (by kernel_rfl)

theorem ok_read_words (T : Txt K mg) (hq : Quiet CX) {f : Addr} {fd : FuncData} (D : Df K mg "read_words" s_read_words ["words", "many", "at"] f fd) {f_read_number : Addr} {fd_read_number : FuncData} (D_read_number : Df K mg "read_number" s_read_number ["word", "at"] f_read_number fd_read_number) (G_read_number : FnOk P w K mg base CX 2 f_read_number fd_read_number ["word", "at"] (sp_read_number T)) : FnOk P w K mg base CX 3 f fd ["words", "many", "at"] (sp_read_words T) := by
  refine D.F.okC sc_read_words (fun vs H Q E h => ?_) (fun cdv A outer s H vs Q E hr h => ?_)
  · obtain ⟨l, ns, i, rfl, _⟩ := h
    rfl
  · obtain ⟨l, ns, at', rfl, hl, hn, nb, k⟩ := h
    refine ⟨_, (pss_cons (ps_if (pt_cmpR op_ne (pe_callB call_len_seq n_read_words__len.g T.len pb_len (pa_cons (pvl 0 n_read_words__words) pa_nil) (hn := n_read_words__len.n) (hdb := n_read_words__len.d)) (pvl 1 n_read_words__many) (nomark _)) (pss_one ps_never) pss_nil) (pss_one (ps_ret (pe_comp rfl (ct_clos (Nc := ["word", "at"]) 1 [2] (by decide +kernel) rfl (by decide +kernel) rfl (by show ∀ (y : Str × NameKind), y ∈ _ → y.2 = NameKind.free → (defScope s_read_words).names.lookup y.1 = some NameKind.cell; decide +kernel) rfl (fun _ h => cell_has h) (fun i hi => match i, hi with | 0, _ => ⟨"at", 2, rfl, rfl, rfl, by decide +kernel⟩ | i + 1, hi => absurd hi (by show ¬ i + 1 < 1; omega))) (pi_list (pvl 0 n_read_words__words)) (fun _ _ _ _ => (pg_name (i := 0) (show (["word", "at"] : List Str).Nodup from by decide +kernel) rfl (Or.inl rfl))) (fun _ _ _ _ => pts_nil) (fun _ _ _ _ => (pe_call G_read_number (hr.mono (by decide)) (by rfl) D_read_number.m D_read_number.F.kp D_read_number.b .nil (passQ hq) (pa_cons (pv 0) (pa_cons (pv 1) pa_nil)))))))), ?_⟩
    rw [show L2.start ["words", "many", "at"] [V.ref l, V.int ns.length, V.int at'] = [some (V.ref l), some (V.int ns.length), some (V.int at')] from rfl]
    walk_at "rd"
    have lm : ((ns.map FS).map V.str).length = ns.length := by rw [List.length_map, List.length_map]
    refine ⟨_, .inl (SqL.of hl), ?_⟩
    rw [if_neg (by rw [lm]; exact fun z => z rfl)]
    refine ⟨⟨_, SqL.of hl⟩, fun p hp => ?_⟩
    refine comp_any (K := K) (c := true) (a := l) (xs := (ns.map FS).map V.str) (fun i ys σ H2 => Same H H2 ∧ H2 p = some (.lst ys) ∧ ys = vNs (ns.take i) ∧ ∃ v, σ = [v, some (V.int at')]) ⟨Same.new _ hp, upd_same, by simp [vNs], _, rfl⟩ (fun i ys σ H2 _ ⟨z, _⟩ => SqL.of (z _ _ hl)) ?_ ?_
    · rintro i x ys σ H2 N hN hi ⟨s5, h2, rfl, v, rfl⟩
      obtain ⟨z, hz, rfl⟩ := List.getElem?_map_some hi
      obtain ⟨n, hn', rfl⟩ := List.getElem?_map_some hz
      have et : ns.take (i + 1) = ns.take i ++ [n] := by rw [List.take_succ, hn']; rfl
      have hil : i < ns.length := (List.getElem?_eq_some_iff.mp hn').1
      walk_at "rd"
      refine ⟨n, at', rfl, nb n (List.mem_of_getElem? hn'), fun H3 s6 => ⟨s6 _ _ h2, small (by unfold vNs; rw [List.length_map, List.length_take]; omega), hN _ _ _ ⟨?_, upd_same, ?_, _, rfl⟩⟩⟩
      · exact fun b o e => by rw [upd_ne (ne_of_none e hp)]; exact s6 _ _ (s5 _ _ e)
      · rw [et]; unfold vNs; rw [List.map_append]; rfl
    · rintro ys σ H2 ⟨s5, h2, rfl, v, rfl⟩
      rw [lm, List.take_length] at h2
      exact k p _ hp s5 h2
/-! #### read_row -/
def sp_read_row (T : Txt K mg) : Sp := fun vs H Q _ => ∃ (a : Addr) (ys : List Str) (i : Nat) (hd : Str) (ns : List Nat), vs = [.ref a, .int (i + 1 : Nat), .str hd, .int ns.length] ∧ H a = some (.lst (ys.map V.str)) ∧ ys[i]? = some (rwt hd ns) ∧ HdOk hd ∧ ns.length ≤ 4 ∧ (∀ n ∈ ns, n < 10 ^ 60) ∧ ∀ p H', H p = none → Same H H' → H' p = some (.lst (vNs ns)) → Q (.ref p) H'
abbrev s_read_row : Stmt := top 24
theorem sc_read_row : FnScope ["rows", "at", "head", "many", "words"] ["rows", "at", "head", "many"] (defScope s_read_row) := FnScope.of (by kernel_rfl)
theorem n_read_row__rows : NmL (defScope s_read_row) "rows" := .of (by kernel_rfl)
theorem n_read_row__at : NmL (defScope s_read_row) "at" := .of (by kernel_rfl)
theorem n_read_row__head : NmL (defScope s_read_row) "head" := .of (by kernel_rfl)
theorem n_read_row__many : NmL (defScope s_read_row) "many" := .of (by kernel_rfl)
theorem n_read_row__words : NmL (defScope s_read_row) "words" := .of (by kernel_rfl)
theorem n_read_row__len : NmG (defScope s_read_row) "len" := .of (by kernel_rfl)
theorem n_read_row__BadText : NmG (defScope s_read_row) "BadText" := .of (by kernel_rfl)
theorem n_read_row__read_words : NmG (defScope s_read_row) "read_words" := .of (by kernel_rfl)

theorem ok_read_row (T : Txt K mg) (hq : Quiet CX) {f : Addr} {fd : FuncData} (D : Df K mg "read_row" s_read_row ["rows", "at", "head", "many"] f fd) {f_read_words : Addr} {fd_read_words : FuncData} (D_read_words : Df K mg "read_words" s_read_words ["words", "many", "at"] f_read_words fd_read_words) (G_read_words : FnOk P w K mg base CX 3 f_read_words fd_read_words ["words", "many", "at"] (sp_read_words T)) : FnOk P w K mg base CX 4 f fd ["rows", "at", "head", "many"] (sp_read_row T) := by
  refine D.F.okC sc_read_row (fun vs H Q E h => ?_) (fun cdv A outer s H vs Q E hr h => ?_)
  · obtain ⟨a, ys, i, hd, ns, rfl, _⟩ := h
    rfl
  · obtain ⟨a, ys, i, hd, ns, rfl, ha, gi, ok, nl, nb, k⟩ := h
    refine ⟨_, (pss_cons (ps_if (pt_cmpR op_gt (pvl 1 n_read_row__at) (pe_callB call_len_seq n_read_row__len.g T.len pb_len (pa_cons (pvl 0 n_read_row__rows) pa_nil) (hn := n_read_row__len.n) (hdb := n_read_row__len.d)) (nomark _)) (pss_one ps_never) pss_nil) (pss_cons (ps_set (i := 4) sc_read_row.nd rfl (Or.inl n_read_row__words.l) (pe_bm PySem.F.plainAttrs_str PySem.F.slot_str_split PySem.F.type_str_split mt_split (pe_ix ix_list (pvl 0 n_read_row__rows) (pe_op op_sub (pvl 1 n_read_row__at) pe_int) (fun _ _ => rfl)) (pa_cons pe_str pa_nil))) (pss_cons (ps_if (pt_cmpR op_ne (pe_ix ix_list (pvl 4 n_read_row__words) pe_int (fun _ _ => rfl)) (pvl 2 n_read_row__head) (nomark _)) (pss_one ps_never) pss_nil) (pss_one (ps_ret (pe_call G_read_words (hr.mono (by decide)) n_read_row__read_words.g D_read_words.m D_read_words.F.kp D_read_words.b .nil (passQ hq) (pa_cons (pe_slice sl_list (pvl 4 n_read_row__words) (po_some pe_int) po_none) (pa_cons (pvl 3 n_read_row__many) (pa_cons (pvl 1 n_read_row__at) pa_nil))) (hdb := n_read_row__read_words.d))))))), ?_⟩
    rw [show L2.start ["rows", "at", "head", "many", "words"] [V.ref a, V.int (i + 1 : Nat), V.str hd, V.int ns.length] = [some (V.ref a), some (V.int (i + 1 : Nat)), some (V.str hd), some (V.int ns.length), none] from rfl]
    unfold tSl tPart tNoPart
    walk_at "rd"
    have hil : i < ys.length := (List.getElem?_eq_some_iff.mp gi).1
    refine ⟨_, .inl (SqL.of ha), ?_⟩
    rw [if_neg (by rw [List.length_map]; omega), show (((i + 1 : Nat) : Int) - 1) = (i : Int) by omega]
    refine ixL ha (atI_int (Int.natCast_nonneg i) (v := V.str (rwt hd ns)) (by rw [Int.toNat_natCast, List.getElem?_map, gi]; rfl)) ?_
    refine ⟨by simp [tyV], _, rfl, _, rfl, rfl, ?_, fun l nl => ?_⟩
    · have := rwt_len ok nb
      omega
    rw [rwt_split ok]
    have s1 := Same.new (.lst ((hd :: ns.map FS).map V.str)) nl
    refine ixL (v := V.str hd) upd_same (atI_int (by decide) rfl) ⟨by simp [scal], ?_⟩
    rw [if_neg (fun z => z rfl)]
    refine ⟨l, _, rfl, SqL.of upd_same, fun q nq => ?_⟩
    rw [cut_lo _ (by decide)]
    have s2 := s1.trans (Same.new (.lst ((ns.map FS).map V.str)) nq)
    refine ⟨q, ns, _, rfl, upd_same, by omega, nb, fun p H' np s3 e => k p H' (s2.free np) (s2.trans s3) e⟩
/-! #### read_web -/
def sp_read_web (T : Txt K mg) : Sp := fun vs H Q _ => ∃ (m : Int) (rs : List Road), vs = [.str (wbt m rs)] ∧ Good m rs ∧ ∀ p t ps H', H p = none → Same H H' → WebAt T.Web H' p m t ps rs → Q (.ref p) H'
abbrev s_read_web : Stmt := top 23
theorem sc_read_web : FnScope ["text", "rows", "many", "last", "roads"] ["text"] (defScope s_read_web) := FnScope.of (by kernel_rfl)
theorem n_read_web__text : NmL (defScope s_read_web) "text" := .of (by kernel_rfl)
theorem n_read_web__rows : NmC (defScope s_read_web) "rows" := .of (by kernel_rfl)
theorem n_read_web__many : NmL (defScope s_read_web) "many" := .of (by kernel_rfl)
theorem n_read_web__last : NmL (defScope s_read_web) "last" := .of (by kernel_rfl)
theorem n_read_web__roads : NmL (defScope s_read_web) "roads" := .of (by kernel_rfl)
theorem n_read_web__read_row : NmG (defScope s_read_web) "read_row" := .of (by kernel_rfl)
theorem n_read_web__MOST_PLACES : NmG (defScope s_read_web) "MOST_PLACES" := .of (by kernel_rfl)
theorem n_read_web__range : NmG (defScope s_read_web) "range" := .of (by kernel_rfl)
theorem n_read_web__check_end : NmG (defScope s_read_web) "check_end" := .of (by kernel_rfl)
theorem n_read_web__Web : NmG (defScope s_read_web) "Web" := .of (by kernel_rfl)

theorem ok_read_web (T : Txt K mg) (hq : Quiet CX) {f : Addr} {fd : FuncData} (D : Df K mg "read_web" s_read_web ["text"] f fd) {f_Web___init__ : Addr} {fd_Web___init__ : FuncData} (F_Web___init__ : Fun K "__init__" "Web.__init__" s_Web___init__ f_Web___init__ fd_Web___init__) (b_Web : Binds K fd_Web___init__ ["self", "many", "roads"] []) (M_Web : Mk K T.Web f_Web___init__) (G_Web_init : FnOk P w K mg base CX 3 f_Web___init__ fd_Web___init__ ["self", "many", "roads"] (sp_Web___init__ T)) {f_check_end : Addr} {fd_check_end : FuncData} (D_check_end : Df K mg "check_end" s_check_end ["rows", "last"] f_check_end fd_check_end) (G_check_end : FnOk P w K mg base CX 1 f_check_end fd_check_end ["rows", "last"] (sp_check_end T)) {f_read_row : Addr} {fd_read_row : FuncData} (D_read_row : Df K mg "read_row" s_read_row ["rows", "at", "head", "many"] f_read_row fd_read_row) (G_read_row : FnOk P w K mg base CX 4 f_read_row fd_read_row ["rows", "at", "head", "many"] (sp_read_row T)) : FnOk P w K mg base CX 5 f fd ["text"] (sp_read_web T) := by
  refine D.F.okC sc_read_web (fun vs H Q E h => ?_) (fun cdv A outer s H vs Q E hr h => ?_)
  · obtain ⟨m, rs, rfl, _⟩ := h
    rfl
  · obtain ⟨m, rs, rfl, g, k⟩ := h
    refine ⟨_, (pss_cons (ps_set (i := 1) sc_read_web.nd rfl (Or.inr n_read_web__rows.l) (pe_bm PySem.F.plainAttrs_str PySem.F.slot_str_split PySem.F.type_str_split mt_split (pvl 0 n_read_web__text) (pa_cons pe_str pa_nil))) (pss_cons (ps_set (i := 2) sc_read_web.nd rfl (Or.inl n_read_web__many.l) (pe_ix ix_list (pe_call G_read_row (hr.mono (by decide)) n_read_web__read_row.g D_read_row.m D_read_row.F.kp D_read_row.b .nil (passQ hq) (pa_cons (pvc 1 n_read_web__rows) (pa_cons pe_int (pa_cons pe_str (pa_cons pe_int pa_nil)))) (hdb := n_read_web__read_row.d)) pe_int (fun _ _ => rfl))) (pss_cons (ps_set (i := 3) sc_read_web.nd rfl (Or.inl n_read_web__last.l) (pe_ifExp (pt_chain op_le op_le pe_int (pvl 2 n_read_web__many) (pe_globI n_read_web__MOST_PLACES.g T.c_MOST_PLACES (hd := n_read_web__MOST_PLACES.d))) (pvl 2 n_read_web__many) pe_int)) (pss_cons (ps_setComp (i := 4) sc_read_web.nd rfl n_read_web__roads.l rfl (ct_clos (Nc := ["at", "rows"]) 1 [1] (by decide +kernel) rfl (by decide +kernel) rfl (by show ∀ (y : Str × NameKind), y ∈ _ → y.2 = NameKind.free → (defScope s_read_web).names.lookup y.1 = some NameKind.cell; decide +kernel) rfl (fun _ h => cell_has h) (fun i hi => match i, hi with | 0, _ => ⟨"rows", 1, rfl, rfl, rfl, by decide +kernel⟩ | i + 1, hi => absurd hi (by show ¬ i + 1 < 1; omega))) (pi_range2 n_read_web__range.g T.range (pa_cons pe_int (pa_cons (pe_op op_add (pvl 3 n_read_web__last) pe_int) pa_nil))) (fun _ _ _ _ => (pg_name (i := 0) (show (["at", "rows"] : List Str).Nodup from by decide +kernel) rfl (Or.inl rfl))) (fun _ _ _ _ => pts_nil) (fun _ _ _ _ => (pe_callTy (call_tuple_ofK K rfl) (by rfl) T.tuple pb_tuple (pa_cons (pe_call G_read_row (hr.mono (by decide)) (by rfl) D_read_row.m D_read_row.F.kp D_read_row.b .nil (passQ hq) (pa_cons (pv 1) (pa_cons (pv 0) (pa_cons pe_str (pa_cons pe_int pa_nil))))) pa_nil)))) (pss_cons (ps_expr (pe_call G_check_end (hr.mono (by decide)) n_read_web__check_end.g D_check_end.m D_check_end.F.kp D_check_end.b .nil (passQ hq) (pa_cons (pvc 1 n_read_web__rows) (pa_cons (pvl 3 n_read_web__last) pa_nil)) (hdb := n_read_web__check_end.d))) (pss_one (ps_ret (pe_make M_Web G_Web_init (hr.mono (by decide)) n_read_web__Web.g T.m_Web b_Web .nil (passQ hq) (pa_cons (pvl 2 n_read_web__many) (pa_cons (pvl 4 n_read_web__roads) pa_nil)) (hdb := n_read_web__Web.d))))))))), ?_⟩
    rw [show L2.start ["text", "rows", "many", "last", "roads"] [V.str (wbt m rs)] = [some (V.str (wbt m rs)), none, none, none, none] from rfl]
    have m1 := g.m1
    have m24 := g.m24
    have glen := g.len
    refine cutS fun N0 h0 => ?_
    walk_at "rd"
    refine ⟨by simp [tyV], _, rfl, _, rfl, rfl, wbt_len g, fun l nl => h0 _ _ (cutS fun N1 h1 => ?_)⟩
    rw [wbt_rows]
    have s1 := Same.new (.lst ((wrows m rs).map V.str)) nl
    have el : upd H l (.lst ((wrows m rs).map V.str)) l = some (.lst ((wrows m rs).map V.str)) := upd_same
    generalize upd H l (.lst ((wrows m rs).map V.str)) = H1 at s1 el ⊢
    walk_at "rd"
    refine ⟨l, wrows m rs, 0, hWeb, [m.toNat], rfl, el, rfl, hWeb_ok, (show 1 ≤ 4 by decide), ?_, fun p2 H2 np2 s2 e2 => ?_⟩
    · intro n hn
      rw [List.mem_singleton.mp hn]
      exact Nat.lt_of_le_of_lt (show m.toNat ≤ 24 by omega) (by decide)
    refine ixL (v := V.int m) e2 (atI_int (by decide) (by show some (V.int (m.toNat : Int)) = _; rw [Int.toNat_of_nonneg (show 0 ≤ m by omega)])) (h1 _ _ (cutS fun N2 h2 => ?_))
    have el2 := s2 _ _ el
    have s12 := s1.trans s2
    clear s1 s2 el e2 h0 h1
    walk_at "rd"
    rw [if_pos m1, if_pos m24]
    refine h2 _ _ (cutS fun N3 h3 => ?_)
    clear h2
    walk_at "rd"
    refine ⟨2, m + 1, ⟨rfl, rfl⟩, ⟨by omega, by omega, by omega, by omega⟩, fun pc npc => ?_⟩
    have en : (m + 1 - 2).toNat = rs.length := by omega
    rw [en]
    have s2 := Same.new (.lst []) npc
    refine comp_range (fun i zs σ H3 => Same H2 H3 ∧ H3 pc = some (.lst zs) ∧ (∃ ps : List Addr, zs = ps.map V.ref ∧ ps.length = i ∧ RoadsAt H3 ps (rs.take i)) ∧ ∃ v, σ = [v, some (V.ref l)]) ⟨s2, upd_same, ⟨[], rfl, rfl, .nil⟩, _, rfl⟩ ?_ ?_
    · rintro i zs σ H3 N hN hi ⟨s3, e3, ⟨ps, rfl, pl, ro⟩, v, rfl⟩
      have gi : rs[i]? = some rs[i] := List.getElem?_eq_getElem hi
      obtain ⟨rv, rb⟩ := rd_v (g.ok rs[i] (List.getElem_mem hi)) m24
      have et : rs.take (i + 1) = rs.take i ++ [rs[i]] := by rw [List.take_succ, gi]; rfl
      have gw : (wrows m rs)[i + 1]? = some (rwt hRoad (rdNs rs[i])) := by
        show (rs.map wrow)[i]? = _
        rw [List.getElem?_map, gi]; rfl
      walk_at "rd"
      refine ⟨l, wrows m rs, i + 1, hRoad, rdNs rs[i], ?_, s3 _ _ el2, gw, hRoad_ok, (show 4 ≤ 4 by decide), rb, fun q H4 nq s4 e4 => ?_⟩
      · rw [show ((i + 1 + 1 : Nat) : Int) = 2 + (i : Int) by omega]; rfl
      refine ⟨q, rfl, _, .inl ⟨SqL.of e4, fun qt nqt => ?_⟩⟩
      have s5 := s4.trans (Same.new (.tup (vNs (rdNs rs[i]))) nqt)
      have nqp : qt ≠ pc := fun z => by rw [z, s4 _ _ e3] at nqt; cases nqt
      refine ⟨s5 _ _ e3, small (by rw [List.length_map]; omega), hN _ _ _ ⟨?_, upd_same, ⟨ps ++ [qt], by rw [List.map_append]; rfl, by rw [List.length_append, pl]; rfl, ?_⟩, _, rfl⟩⟩
      · exact fun b o e => by rw [upd_ne (ne_of_none e npc)]; exact s5 _ _ (s3 _ _ e)
      · rw [et]
        refine pr_app (.cons ?_ .nil) (Paired.imp' (fun b r hb => ?_) ro)
        · rw [upd_ne nqp, rv]; exact upd_same
        · rw [upd_ne (ne_of hb e3 (by intro z; cases z))]
          exact s5 _ _ hb
    · rintro zs σ H3 ⟨s3, e3, ⟨ps, rfl, pl, ro⟩, v, rfl⟩
      rw [List.take_length] at ro
      have s13 := s12.trans s3
      refine h3 _ _ ?_
      walk_at "rd"
      refine ⟨l, _, m, rfl, s3 _ _ el2, ?_, ?_⟩
      · rw [List.length_map, wrows_num g]; exact Int.le_refl _
      exact mk_web T (c := true) (SqL.of e3) ro g fun x tw H4 hx htw s4 W => k x tw ps H4 (s13.free hx) (s13.trans s4) W
/-! #### number_text -/
def sp_number_text (T : Txt K mg) : Sp := fun vs H Q _ => ∃ n : Nat, vs = [.int n] ∧ n < 2 ^ 4000 ∧ ∀ H', Same H H' → Q (.str (FS n)) H'
abbrev s_number_text : Stmt := top 20
theorem sc_number_text : FnScope ["number", "pieces"] ["number"] (defScope s_number_text) := FnScope.of (by kernel_rfl)
theorem n_number_text__number : NmL (defScope s_number_text) "number" := .of (by kernel_rfl)
theorem n_number_text__pieces : NmL (defScope s_number_text) "pieces" := .of (by kernel_rfl)
theorem n_number_text__PIECE : NmG (defScope s_number_text) "PIECE" := .of (by kernel_rfl)
theorem n_number_text__str : NmG (defScope s_number_text) "str" := .of (by kernel_rfl)
theorem n_number_text__PIECE_FIGURES : NmG (defScope s_number_text) "PIECE_FIGURES" := .of (by kernel_rfl)
theorem n_number_text__reversed : NmG (defScope s_number_text) "reversed" := .of (by kernel_rfl)

theorem ok_number_text (T : Txt K mg) (hq : Quiet CX) {f : Addr} {fd : FuncData} (D : Df K mg "number_text" s_number_text ["number"] f fd) : FnOk P w K mg base CX 1 f fd ["number"] (sp_number_text T) := by
  refine D.F.okC sc_number_text (fun vs H Q E h => ?_) (fun cdv A outer s H vs Q E hr h => ?_)
  · obtain ⟨n, rfl, _⟩ := h
    rfl
  · obtain ⟨n, rfl, nb, k⟩ := h
    refine ⟨_, (pss_cons (ps_set (i := 1) sc_number_text.nd rfl (Or.inl n_number_text__pieces.l) (pe_lst pa_nil)) (pss_cons (ps_while PassesOwn.never (pt_cmpR op_ge (pvl 0 n_number_text__number) (pe_globI n_number_text__PIECE.g T.c_PIECE (hd := n_number_text__PIECE.d)) (nomark _)) (pss_cons (ps_expr (pe_bm PySem.F.plainAttrs_list PySem.F.slot_list_append PySem.F.type_list_append mt_append (pvl 1 n_number_text__pieces) (pa_cons (pe_bm PySem.F.plainAttrs_str PySem.F.slot_str_zfill PySem.F.type_str_zfill mt_zfill (pe_callTy call_str_int n_number_text__str.g T.str pb_str (pa_cons (pe_op op_mod (pvl 0 n_number_text__number) (pe_globI n_number_text__PIECE.g T.c_PIECE (hd := n_number_text__PIECE.d))) pa_nil) (hn := n_number_text__str.n) (hdb := n_number_text__str.d)) (pa_cons (pe_globI n_number_text__PIECE_FIGURES.g T.c_PIECE_FIGURES (hd := n_number_text__PIECE_FIGURES.d)) pa_nil)) pa_nil))) (pss_one (ps_set (i := 0) sc_number_text.nd rfl (Or.inl n_number_text__number.l) (pe_op op_fdivB (pvl 0 n_number_text__number) (pe_globI n_number_text__PIECE.g T.c_PIECE (hd := n_number_text__PIECE.d))))))) (pss_cons (ps_expr (pe_bm PySem.F.plainAttrs_list PySem.F.slot_list_append PySem.F.type_list_append mt_append (pvl 1 n_number_text__pieces) (pa_cons (pe_callTy call_str_int n_number_text__str.g T.str pb_str (pa_cons (pvl 0 n_number_text__number) pa_nil) (hn := n_number_text__str.n) (hdb := n_number_text__str.d)) pa_nil))) (pss_one (ps_ret (pe_joinR rfl n_number_text__reversed.g T.reversed (pvl 1 n_number_text__pieces))))))), ?_⟩
    rw [show L2.start ["number", "pieces"] [V.int n] = [some (V.int n), none] from rfl]
    refine cutS fun N1 h1 => ?_
    walk_at "rd"
    refine ⟨smallE (by simp), fun l nl => h1 _ _ (cutS fun N2 h2 => ?_)⟩
    refine while_H (fun q σ H' => q < 2 ^ 4000 ∧ ∃ ps : List Str, H' = upd H l (.lst (ps.map V.str)) ∧ (∀ p ∈ ps, p.length = 18) ∧ q * 2 ^ ps.length ≤ n ∧ (0 < q ∨ ps = []) ∧ figs n = figs q ++ (ps.reverse.map (·.cps.toList)).flatten ∧ σ = [some (V.int q), some (V.ref l)]) n ⟨nb, [], rfl, by simp, by simp, .inr rfl, by simp, rfl⟩ ?_
    rintro q σ H' N BB hBB hN hN2 ⟨qb, ps, rfl, hps, hq, hq0, e, rfl⟩
    have pl : ps.length < 4000 := by
      rcases hq0 with hq0 | rfl
      · refine (Nat.pow_lt_pow_iff_right (a := 2) (by decide)).mp (Nat.lt_of_le_of_lt (Nat.le_trans ?_ hq) nb)
        exact Nat.le_mul_of_pos_left _ hq0
      · decide
    refine hBB _ _ _ ?_
    walk_at "rd"
    by_cases c : (1000000000000000000 : Int) ≤ q
    · rw [if_pos c]
      have c' : 10 ^ 18 ≤ q := by omega
      have em : (q : Int) % 1000000000000000000 = ((q % 10 ^ 18 : Nat) : Int) := by omega
      have ed : (q : Int) / 1000000000000000000 = ((q / 10 ^ 18 : Nat) : Int) := by omega
      have ml : q % 10 ^ 18 < 10 ^ 18 := Nat.mod_lt _ (by decide)
      rw [em, ed, FS_of]
      have dp : 0 < q / 10 ^ 18 := Nat.div_pos c' (by decide)
      refine ⟨N, hN2, tyL upd_same, by decide, log2_le ml (by decide) (by decide), by simp [tyV], _, rfl, by decide, appR upd_same (by rw [List.length_map]; exact Nat.lt_of_lt_of_le pl (by decide)) ⟨⟨by decide, by decide⟩, ?_⟩⟩
      refine hN (q / 10 ^ 18) _ _ (by omega) ⟨by omega, ps ++ [Txt.zfill (FS (q % 10 ^ 18)) 18], ?_, ?_, ?_, .inl dp, ?_, rfl⟩
      · rw [List.map_append]; exact upd_upd
      · intro p hp
        rcases List.mem_append.mp hp with hp | hp
        · exact hps p hp
        · rw [List.mem_singleton.mp hp]; exact zf_len ml
      · rw [List.length_append, List.length_singleton, show 2 ^ (ps.length + 1) = 2 ^ ps.length * 2 from Nat.pow_succ ..]
        have : q / 10 ^ 18 * (2 ^ ps.length * 2) = (q / 10 ^ 18 * 2) * 2 ^ ps.length := by
          rw [Nat.mul_comm (2 ^ ps.length) 2, Nat.mul_assoc]
        rw [this]
        exact Nat.le_trans (Nat.mul_le_mul_right _ (by omega)) hq
      · rw [e, zf_step c']
        simp
    · rw [if_neg c]
      refine h2 _ _ ?_
      walk_at "rd"
      refine ⟨tyL upd_same, log2_le (n := 18) (m := q) (by omega) (by decide) (by decide), appR upd_same (by rw [List.length_map]; exact Nat.lt_of_lt_of_le pl (by decide)) ⟨ps ++ [FS q], ?_, ?_, ?_⟩⟩
      · rw [FS_of, upd_upd, List.map_append]
        exact SqL.of upd_same
      · have sm : (ps.map (·.length)).sum = 18 * ps.length := by
          clear hq hq0 e pl
          induction ps with
          | nil => rfl
          | cons p ps ih =>
            rw [List.map_cons, List.sum_cons, hps p (.head _), ih (fun x hx => hps x (.tail _ hx)), List.length_cons]
            omega
        have fl : (FS q).length ≤ 18 := by
          rw [len_list]; exact figs_len 17 q (by omega)
        simp only [List.map_append, List.map_cons, List.map_nil, List.sum_append, List.sum_cons, List.sum_nil, sm, show (Str.ofString "").length = 0 from rfl]
        omega
      · rw [show Str.ofString "" = ("" : Str) from rfl, FS_join e]
        refine k _ ?_
        rw [upd_upd]
        exact Same.new _ nl
/-! #### numbers_text -/
def sp_numbers_text (T : Txt K mg) : Sp := fun vs H Q _ => ∃ (a : Addr) (c : Bool) (ns : List Nat), vs = [.ref a] ∧ AtX c H a (vNs ns) ∧ ns.length ≤ 100 ∧ (∀ n ∈ ns, n < 2 ^ 4000) ∧ ∀ H', Same H H' → Q (.str (Str.join " " (ns.map FS))) H'
abbrev s_numbers_text : Stmt := top 21
theorem sc_numbers_text : FnScope ["numbers"] ["numbers"] (defScope s_numbers_text) := FnScope.of (by kernel_rfl)
theorem n_numbers_text__numbers : NmL (defScope s_numbers_text) "numbers" := .of (by kernel_rfl)

theorem ok_numbers_text (T : Txt K mg) (hq : Quiet CX) {f : Addr} {fd : FuncData} (D : Df K mg "numbers_text" s_numbers_text ["numbers"] f fd) {f_number_text : Addr} {fd_number_text : FuncData} (D_number_text : Df K mg "number_text" s_number_text ["number"] f_number_text fd_number_text) (G_number_text : FnOk P w K mg base CX 1 f_number_text fd_number_text ["number"] (sp_number_text T)) : FnOk P w K mg base CX 2 f fd ["numbers"] (sp_numbers_text T) := by
  refine D.F.okC sc_numbers_text (fun vs H Q E h => ?_) (fun cdv A outer s H vs Q E hr h => ?_)
  · obtain ⟨a, c, ns, rfl, _⟩ := h
    rfl
  · obtain ⟨a, c, ns, rfl, ha, hl, nb, k⟩ := h
    refine ⟨_, (pss_one (ps_ret (pe_bm PySem.F.plainAttrs_str PySem.F.slot_str_join PySem.F.type_str_join mt_join pe_str (pa_cons (pe_comp rfl (ct_plain (Nc := ["number"]) 1 (by decide +kernel) (by decide +kernel) rfl (by decide +kernel) rfl) (pi_any c (pvl 0 n_numbers_text__numbers)) (fun _ _ _ _ => (pg_name (i := 0) (show (["number"] : List Str).Nodup from by decide +kernel) rfl (Or.inl rfl))) (fun _ _ _ _ => pts_nil) (fun _ _ _ _ => (pe_call G_number_text (hr.mono (by decide)) (by rfl) D_number_text.m D_number_text.F.kp D_number_text.b .nil (passQ hq) (pa_cons (pv 0) pa_nil)))) pa_nil)))), ?_⟩
    rw [show L2.start ["numbers"] [V.ref a] = [some (V.ref a)] from rfl]
    walk_at "rd"
    have lv : (vNs ns).length = ns.length := List.length_map ..
    refine ⟨by simp [tyV], ⟨_, ha.sq⟩, fun p hp => ?_⟩
    refine comp_any (K := K) (xs := vNs ns) (fun i ys σ H2 => Same H H2 ∧ H2 p = some (.lst ys) ∧ ys = (ns.take i).map (fun n => V.str (FS n)) ∧ ∃ v, σ = [v]) ⟨Same.new _ hp, upd_same, by simp, _, rfl⟩ (fun i ys σ H2 _ ⟨z, _⟩ => Same.sqX z ha.sq) ?_ ?_
    · rintro i x ys σ H2 N hN hi ⟨s2, h2, rfl, v, rfl⟩
      obtain ⟨n, hn, rfl⟩ := List.getElem?_map_some hi
      have et : ns.take (i + 1) = ns.take i ++ [n] := by rw [List.take_succ, hn]; rfl
      have hil : i < ns.length := (List.getElem?_eq_some_iff.mp hn).1
      walk_at "rd"
      refine ⟨n, rfl, nb n (List.mem_of_getElem? hn), fun H3 s3 => ⟨s3 _ _ h2, small (by rw [List.length_map, List.length_take]; omega), hN _ _ _ ⟨?_, upd_same, ?_, _, rfl⟩⟩⟩
      · exact fun b o e => by rw [upd_ne (ne_of_none e hp)]; exact s3 _ _ (s2 _ _ e)
      · rw [et, List.map_append]; rfl
    · rintro ys σ H2 ⟨s2, h2, rfl, v, rfl⟩
      rw [lv, List.take_length] at h2
      have em : ns.map (fun n => V.str (FS n)) = (ns.map FS).map V.str := by rw [List.map_map]; rfl
      refine ⟨_, p, ns.map FS, rfl, rfl, ?_, ?_, k _ s2⟩
      · rw [← em]; exact SqL.of h2
      · exact wds_ok nb hl
/-! #### web_text -/
def sp_web_text (T : Txt K mg) : Sp := fun vs H Q _ => ∃ (p t : Addr) (m : Int) (ps : List Addr) (rs : List Road), vs = [.ref p] ∧ WebAt T.Web H p m t ps rs ∧ ∀ H', Same H H' → Q (.str (wbt m rs)) H'
abbrev s_web_text : Stmt := top 22
theorem sc_web_text : FnScope ["web", "rows", "road"] ["web"] (defScope s_web_text) := FnScope.of (by kernel_rfl)
theorem n_web_text__web : NmL (defScope s_web_text) "web" := .of (by kernel_rfl)
theorem n_web_text__rows : NmL (defScope s_web_text) "rows" := .of (by kernel_rfl)
theorem n_web_text__road : NmL (defScope s_web_text) "road" := .of (by kernel_rfl)
theorem n_web_text__number_text : NmG (defScope s_web_text) "number_text" := .of (by kernel_rfl)
theorem n_web_text__numbers_text : NmG (defScope s_web_text) "numbers_text" := .of (by kernel_rfl)

theorem ok_web_text (T : Txt K mg) (hq : Quiet CX) {f : Addr} {fd : FuncData} (D : Df K mg "web_text" s_web_text ["web"] f fd) {f_number_text : Addr} {fd_number_text : FuncData} (D_number_text : Df K mg "number_text" s_number_text ["number"] f_number_text fd_number_text) (G_number_text : FnOk P w K mg base CX 1 f_number_text fd_number_text ["number"] (sp_number_text T)) {f_numbers_text : Addr} {fd_numbers_text : FuncData} (D_numbers_text : Df K mg "numbers_text" s_numbers_text ["numbers"] f_numbers_text fd_numbers_text) (G_numbers_text : FnOk P w K mg base CX 2 f_numbers_text fd_numbers_text ["numbers"] (sp_numbers_text T)) : FnOk P w K mg base CX 3 f fd ["web"] (sp_web_text T) := by
  refine D.F.okC sc_web_text (fun vs H Q E h => ?_) (fun cdv A outer s H vs Q E hr h => ?_)
  · obtain ⟨p, t, m, ps, rs, rfl, _⟩ := h
    rfl
  · obtain ⟨p, t, m, ps, rs, rfl, W, k⟩ := h
    obtain ⟨dx, ob⟩ := W.ob
    refine ⟨_, (pss_cons (ps_set (i := 1) sc_web_text.nd rfl (Or.inl n_web_text__rows.l) (pe_lst (pa_cons (pe_op op_add_str pe_str (pe_call G_number_text (hr.mono (by decide)) n_web_text__number_text.g D_number_text.m D_number_text.F.kp D_number_text.b .nil (passQ hq) (pa_cons (pe_fld  (pvl 0 n_web_text__web) rfl) pa_nil) (hdb := n_web_text__number_text.d))) pa_nil))) (pss_cons (ps_for PassesOwn.never rfl (pi_tup (pe_fld  (pvl 0 n_web_text__web) rfl)) (pg_name (i := 2) sc_web_text.nd rfl (Or.inl n_web_text__road.l)) (pss_one (ps_expr (pe_bm PySem.F.plainAttrs_list PySem.F.slot_list_append PySem.F.type_list_append mt_append (pvl 1 n_web_text__rows) (pa_cons (pe_op op_add_str pe_str (pe_call G_numbers_text (hr.mono (by decide)) n_web_text__numbers_text.g D_numbers_text.m D_numbers_text.F.kp D_numbers_text.b .nil (passQ hq) (pa_cons (pvl 2 n_web_text__road) pa_nil) (hdb := n_web_text__numbers_text.d))) pa_nil))))) (pss_one (ps_ret (pe_bm PySem.F.plainAttrs_str PySem.F.slot_str_join PySem.F.type_str_join mt_join pe_str (pa_cons (pvl 1 n_web_text__rows) pa_nil)))))), ?_⟩
    rw [show L2.start ["web", "rows", "road"] [V.ref p] = [some (V.ref p), none, none] from rfl]
    refine cutS fun N0 h0 => ?_
    walk_at "rd"
    have g := W.go
    have m1 := g.m1
    have m24 := g.m24
    have hlen : ps.length = rs.length := Paired.length W.ro
    have glen := g.len
    refine ⟨T.Web, dx, _, ob, T.cl_Web, T.n_many, _, wflds_many m t, m.toNat, by rw [Int.toNat_of_nonneg (by omega)], ?_, ?_⟩
    · exact Nat.lt_of_lt_of_le (show m.toNat < 2 ^ 5 by omega) (Nat.pow_le_pow_right (by decide) (by decide))
    have lw : (Str.ofString "web ").length = 4 := rfl
    have lr : (Str.ofString "road ").length = 5 := rfl
    have sl : 3000 ≤ sizeLine := by decide
    have fl := FS_len (n := m.toNat) (Nat.lt_of_lt_of_le (show m.toNat < 2 ^ 5 by omega) (Nat.pow_le_pow_right (by decide) (by decide)))
    intro H1 s1
    refine ⟨_, rfl, _, rfl, by omega, smallE (by simp), fun l nl => h0 _ _ ?_⟩
    rw [rwt_one]
    have s2 := s1.trans (Same.new (.lst [V.str (rwt hWeb [m.toNat])]) nl)
    have el : upd H1 l (.lst [V.str (rwt hWeb [m.toNat])]) l = some (.lst ([rwt hWeb [m.toNat]].map V.str)) := upd_same
    have nl0 := s1.free nl
    have W1 := W.same s2
    generalize upd H1 l (.lst [V.str (rwt hWeb [m.toNat])]) = H2 at s2 el W1 ⊢
    clear s1 nl ob h0 fl
    obtain ⟨dx, ob⟩ := W1.ob
    refine cutS fun N1 h1 => ?_
    walk_at "rd"
    refine ⟨T.Web, dx, _, ob, T.cl_Web, T.n_roads, _, wflds_roads m t, t, rfl, ⟨_, SqT.of W1.tu⟩, ?_⟩
    refine for_tupN (K := K) (xs := ps.map V.ref) (fun i σ H3 => Same H H3 ∧ H3 l = some (.lst ((rwt hWeb [m.toNat] :: (rs.take i).map wrow).map V.str)) ∧ ∃ v, σ = [some (V.ref p), some (V.ref l), v]) ⟨s2, el, _, rfl⟩ (fun i σ H3 _ z => SqT.of (z.1 _ _ W.tu)) ?_ ?_
    · rintro i x σ H3 N hN hx ⟨s3, e3, v, rfl⟩
      obtain ⟨q, r, rfl, hq1, h2, h3⟩ := W.ro.get hx
      have et : rs.take (i + 1) = rs.take i ++ [r] := by rw [List.take_succ, h2]; rfl
      have hil : i < rs.length := (List.getElem?_eq_some_iff.mp h2).1
      obtain ⟨rv, rb⟩ := rd_v (g.ok r (List.mem_of_getElem? h2)) m24
      have rb4 : ∀ n ∈ rdNs r, n < 2 ^ 4000 := fun n hn => Nat.lt_trans (rb n hn) (by decide)
      have h3' := s3 _ _ h3
      rw [rv] at h3'
      walk_at "rd"
      refine ⟨tyL e3, q, false, rdNs r, rfl, h3', (show 4 ≤ 100 by decide), rb4, fun H4 s4 => ⟨_, rfl, _, rfl, ?_, ?_⟩⟩
      · have : (wds (rdNs r)).length ≤ 61 * 4 := wds_len rb
        show _ + (wds (rdNs r)).length ≤ _
        omega
      rw [show Str.join " " ((rdNs r).map FS) = wds (rdNs r) from rfl, show Str.ofString "road " ++ wds (rdNs r) = wrow r from rwt_more]
      refine appR (s4 _ _ e3) (small (by simp only [List.length_map, List.length_cons, List.length_take]; omega)) (hN _ _ ⟨(s3.trans s4).put nl0 _, ?_, _, rfl⟩)
      rw [upd_same, et, List.map_append, ← List.cons_append, List.map_append]
      rfl
    · rintro σ H3 ⟨s3, e3, v, rfl⟩
      rw [List.length_map, hlen, List.take_length] at e3
      refine h1 _ _ ?_
      walk_at "rd"
      exact ⟨by simp [tyV], _, l, wrows m rs, rfl, rfl, SqL.of e3, wrows_ok g, k _ s3⟩
/-! #### law -/
def spLaw (K : PySem.W.Frag) : Sp := fun vs H Q _ => ∃ (a : Addr) (ns : List Int), vs = [.ref a] ∧ SqL K H a (ns.map V.int) ∧ ns.length ≤ 63 ∧ ∀ H', Q (.bl true) H'
def sp_law (T : Txt K mg) : Sp := spLaw K
abbrev s_law : Stmt := top 39
theorem sc_law : FnScope ["script", "many", "roads", "web", "due", "text", "found", "k"] ["script"] (defScope s_law) := FnScope.of (by kernel_rfl)
theorem n_law__script : NmL (defScope s_law) "script" := .of (by kernel_rfl)
theorem n_law__many : NmL (defScope s_law) "many" := .of (by kernel_rfl)
theorem n_law__roads : NmL (defScope s_law) "roads" := .of (by kernel_rfl)
theorem n_law__web : NmL (defScope s_law) "web" := .of (by kernel_rfl)
theorem n_law__due : NmL (defScope s_law) "due" := .of (by kernel_rfl)
theorem n_law__text : NmL (defScope s_law) "text" := .of (by kernel_rfl)
theorem n_law__found : NmL (defScope s_law) "found" := .of (by kernel_rfl)
theorem n_law__k : NmL (defScope s_law) "k" := .of (by kernel_rfl)
theorem n_law__law_web : NmG (defScope s_law) "_law_web" := .of (by kernel_rfl)
theorem n_law__law_numbers : NmG (defScope s_law) "_law_numbers" := .of (by kernel_rfl)
theorem n_law__Web : NmG (defScope s_law) "Web" := .of (by kernel_rfl)
theorem n_law__list : NmG (defScope s_law) "list" := .of (by kernel_rfl)
theorem n_law__law_figures : NmG (defScope s_law) "_law_figures" := .of (by kernel_rfl)
theorem n_law__web_text : NmG (defScope s_law) "web_text" := .of (by kernel_rfl)
theorem n_law__isinstance : NmG (defScope s_law) "isinstance" := .of (by kernel_rfl)
theorem n_law__str : NmG (defScope s_law) "str" := .of (by kernel_rfl)
theorem n_law__read_web : NmG (defScope s_law) "read_web" := .of (by kernel_rfl)
theorem n_law__law_whole : NmG (defScope s_law) "_law_whole" := .of (by kernel_rfl)
theorem n_law__tuple : NmG (defScope s_law) "tuple" := .of (by kernel_rfl)
theorem n_law__len : NmG (defScope s_law) "len" := .of (by kernel_rfl)
theorem n_law__range : NmG (defScope s_law) "range" := .of (by kernel_rfl)
theorem n_law__law_wholes : NmG (defScope s_law) "_law_wholes" := .of (by kernel_rfl)

theorem ok_law (T : Txt K mg) (hq : Quiet CX) {f : Addr} {fd : FuncData} (D : Df K mg "law" s_law ["script"] f fd) {f_Web___init__ : Addr} {fd_Web___init__ : FuncData} (F_Web___init__ : Fun K "__init__" "Web.__init__" s_Web___init__ f_Web___init__ fd_Web___init__) (b_Web : Binds K fd_Web___init__ ["self", "many", "roads"] []) (M_Web : Mk K T.Web f_Web___init__) (G_Web_init : FnOk P w K mg base CX 3 f_Web___init__ fd_Web___init__ ["self", "many", "roads"] (sp_Web___init__ T)) {f_law_figures : Addr} {fd_law_figures : FuncData} (D_law_figures : Df K mg "_law_figures" s_law_figures ["number"] f_law_figures fd_law_figures) (G_law_figures : FnOk P w K mg base CX 1 f_law_figures fd_law_figures ["number"] (sp_law_figures T)) {f_law_numbers : Addr} {fd_law_numbers : FuncData} (D_law_numbers : Df K mg "_law_numbers" s_law_numbers ["script", "many"] f_law_numbers fd_law_numbers) (G_law_numbers : FnOk P w K mg base CX 2 f_law_numbers fd_law_numbers ["script", "many"] (sp_law_numbers T)) {f_law_web : Addr} {fd_law_web : FuncData} (D_law_web : Df K mg "_law_web" s_law_web ["numbers"] f_law_web fd_law_web) (G_law_web : FnOk P w K mg base CX 2 f_law_web fd_law_web ["numbers"] (sp_law_web T)) {f_law_whole : Addr} {fd_law_whole : FuncData} (D_law_whole : Df K mg "_law_whole" s_law_whole ["found"] f_law_whole fd_law_whole) (G_law_whole : FnOk P w K mg base CX 1 f_law_whole fd_law_whole ["found"] (sp_law_whole T)) {f_law_wholes : Addr} {fd_law_wholes : FuncData} (D_law_wholes : Df K mg "_law_wholes" s_law_wholes ["found", "due"] f_law_wholes fd_law_wholes) (G_law_wholes : FnOk P w K mg base CX 2 f_law_wholes fd_law_wholes ["found", "due"] (sp_law_wholes T)) {f_law_words : Addr} {fd_law_words : FuncData} (D_law_words : Df K mg "_law_words" s_law_words ["road"] f_law_words fd_law_words) (G_law_words : FnOk P w K mg base CX 2 f_law_words fd_law_words ["road"] (sp_law_words T)) {f_read_web : Addr} {fd_read_web : FuncData} (D_read_web : Df K mg "read_web" s_read_web ["text"] f_read_web fd_read_web) (G_read_web : FnOk P w K mg base CX 5 f_read_web fd_read_web ["text"] (sp_read_web T)) {f_web_text : Addr} {fd_web_text : FuncData} (D_web_text : Df K mg "web_text" s_web_text ["web"] f_web_text fd_web_text) (G_web_text : FnOk P w K mg base CX 3 f_web_text fd_web_text ["web"] (sp_web_text T)) : FnOk P w K mg base CX 6 f fd ["script"] (sp_law T) := by
  refine D.F.okC sc_law (fun vs H Q E h => ?_) (fun cdv A outer s H vs Q E hr h => ?_)
  · obtain ⟨a, ns, rfl, _⟩ := h
    rfl
  · obtain ⟨a, ns, rfl, ha, hn, k⟩ := h
    have hv := hr.units
    refine ⟨_, (pss_cons (ps_asg (pe_call G_law_web (hr.mono (by decide)) n_law__law_web.g D_law_web.m D_law_web.F.kp D_law_web.b .nil (passQ hq) (pa_cons (pe_call G_law_numbers (hr.mono (by decide)) n_law__law_numbers.g D_law_numbers.m D_law_numbers.F.kp D_law_numbers.b .nil (passQ hq) (pa_cons (pvl 0 n_law__script) (pa_cons pe_int pa_nil)) (hdb := n_law__law_numbers.d)) pa_nil) (hdb := n_law__law_web.d)) (pg_tup (n := 2) rfl (pgs_cons (pg_name (i := 1) sc_law.nd rfl (Or.inl n_law__many.l)) (pgs_cons (pg_name (i := 2) sc_law.nd rfl (Or.inl n_law__roads.l)) pgs_nil)))) (pss_cons (ps_set (i := 3) sc_law.nd rfl (Or.inl n_law__web.l) (pe_make M_Web G_Web_init (hr.mono (by decide)) n_law__Web.g T.m_Web b_Web .nil (passQ hq) (pa_cons (pvl 1 n_law__many) (pa_cons (pe_callTy call_list_of n_law__list.g T.list pb_list (pa_cons (pvl 2 n_law__roads) pa_nil) (hn := n_law__list.n) (hdb := n_law__list.d)) pa_nil)) (hdb := n_law__Web.d))) (pss_cons (ps_set (i := 4) sc_law.nd rfl (Or.inl n_law__due.l) (pe_bm PySem.F.plainAttrs_str PySem.F.slot_str_join PySem.F.type_str_join mt_join pe_str (pa_cons (pe_op op_cat (pe_lst (pa_cons (pe_op op_add_str pe_str (pe_call G_law_figures (hr.mono (by decide)) n_law__law_figures.g D_law_figures.m D_law_figures.F.kp D_law_figures.b .nil (passQ hq) (pa_cons (pvl 1 n_law__many) pa_nil) (hdb := n_law__law_figures.d))) pa_nil)) (pe_comp rfl (ct_plain (Nc := ["road"]) 1 (by decide +kernel) (by decide +kernel) rfl (by decide +kernel) rfl) (pi_list (pvl 2 n_law__roads)) (fun _ _ _ _ => (pg_name (i := 0) (show (["road"] : List Str).Nodup from by decide +kernel) rfl (Or.inl rfl))) (fun _ _ _ _ => pts_nil) (fun _ _ _ _ => (pe_op op_add_str pe_str (pe_call G_law_words (hr.mono (by decide)) (by rfl) D_law_words.m D_law_words.F.kp D_law_words.b .nil (passQ hq) (pa_cons (pv 0) pa_nil)))))) pa_nil))) (pss_cons (ps_set (i := 5) sc_law.nd rfl (Or.inl n_law__text.l) (pe_call G_web_text (hr.mono (by decide)) n_law__web_text.g D_web_text.m D_web_text.F.kp D_web_text.b .nil (passQ hq) (pa_cons (pvl 3 n_law__web) pa_nil) (hdb := n_law__web_text.d))) (pss_cons (ps_if (PW.pt (pw_or (pt_not (pt_val (pe_callB call_isinst n_law__isinstance.g T.isinstance pb_isinstance (pa_cons (pvl 5 n_law__text) (pa_cons (pe_bltn (v := .ty "str") n_law__str.g T.str pb_str rfl (hn := n_law__str.n) (hd := n_law__str.d)) pa_nil)) (hn := n_law__isinstance.n) (hdb := n_law__isinstance.d)))) (pw_or1 (pt_cmpR op_ne (pvl 5 n_law__text) (pvl 4 n_law__due) (nomark _))))) (pss_one (ps_ret pe_bl)) pss_nil) (pss_cons (ps_set (i := 6) sc_law.nd rfl (Or.inl n_law__found.l) (pe_call G_read_web (hr.mono (by decide)) n_law__read_web.g D_read_web.m D_read_web.F.kp D_read_web.b .nil (passQ hq) (pa_cons (pvl 4 n_law__due) pa_nil) (hdb := n_law__read_web.d))) (pss_cons (ps_if (PW.pt (pw_or (pt_not (pt_val (pe_callB call_isinst n_law__isinstance.g T.isinstance pb_isinstance (pa_cons (pvl 6 n_law__found) (pa_cons (pe_glob (v := .ref T.Web) n_law__Web.g T.m_Web rfl) pa_nil)) (hn := n_law__isinstance.n) (hdb := n_law__isinstance.d)))) (pw_or (pt_not (pt_val (pe_call G_law_whole (hr.mono (by decide)) n_law__law_whole.g D_law_whole.m D_law_whole.F.kp D_law_whole.b .nil (passQ hq) (pa_cons (pe_fld  (pvl 6 n_law__found) rfl) pa_nil) (hdb := n_law__law_whole.d)))) (pw_or1 (pt_cmpR op_ne (pe_fld  (pvl 6 n_law__found) rfl) (pvl 1 n_law__many) (nomark _)))))) (pss_one (ps_ret pe_bl)) pss_nil) (pss_cons (ps_if (PW.pt (pw_or (pt_not (pt_val (pe_callB call_isinst n_law__isinstance.g T.isinstance pb_isinstance (pa_cons (pe_fld  (pvl 6 n_law__found) rfl) (pa_cons (pe_bltn (v := .ty "tuple") n_law__tuple.g T.tuple pb_tuple rfl (hn := n_law__tuple.n) (hd := n_law__tuple.d)) pa_nil)) (hn := n_law__isinstance.n) (hdb := n_law__isinstance.d)))) (pw_or1 (pt_cmpR op_ne (pe_callB call_len_seq n_law__len.g T.len pb_len (pa_cons (pe_fld  (pvl 6 n_law__found) rfl) pa_nil) (hn := n_law__len.n) (hdb := n_law__len.d)) (pe_callB call_len_seq n_law__len.g T.len pb_len (pa_cons (pvl 2 n_law__roads) pa_nil) (hn := n_law__len.n) (hdb := n_law__len.d)) (nomark _))))) (pss_one (ps_ret pe_bl)) pss_nil) (pss_cons (ps_for PassesOwn.never rfl (pi_range1 n_law__range.g T.range (pa_cons (pe_callB call_len_seq n_law__len.g T.len pb_len (pa_cons (pvl 2 n_law__roads) pa_nil) (hn := n_law__len.n) (hdb := n_law__len.d)) pa_nil)) (pg_name (i := 7) sc_law.nd rfl (Or.inl n_law__k.l)) (pss_one (ps_if (PW.pt (pw_or (pt_not (pt_val (pe_callB call_isinst n_law__isinstance.g T.isinstance pb_isinstance (pa_cons (pe_ix ix_tup (pe_fld  (pvl 6 n_law__found) rfl) (pvl 7 n_law__k) (fun _ _ => rfl)) (pa_cons (pe_bltn (v := .ty "tuple") n_law__tuple.g T.tuple pb_tuple rfl (hn := n_law__tuple.n) (hd := n_law__tuple.d)) pa_nil)) (hn := n_law__isinstance.n) (hdb := n_law__isinstance.d)))) (pw_or1 (pt_not (pt_val (pe_call G_law_wholes (hr.mono (by decide)) n_law__law_wholes.g D_law_wholes.m D_law_wholes.F.kp D_law_wholes.b .nil (passQ hq) (pa_cons (pe_ix ix_tup (pe_fld  (pvl 6 n_law__found) rfl) (pvl 7 n_law__k) (fun _ _ => rfl)) (pa_cons (pe_ix ix_list (pvl 2 n_law__roads) (pvl 7 n_law__k) (fun _ _ => rfl)) pa_nil)) (hdb := n_law__law_wholes.d))))))) (pss_one (ps_ret pe_bl)) pss_nil))) (pss_one (ps_ret (pe_and (pe_cmpR op_eq (pe_call G_web_text (hr.mono (by decide)) n_law__web_text.g D_web_text.m D_web_text.F.kp D_web_text.b .nil (passQ hq) (pa_cons (pvl 6 n_law__found) pa_nil) (hdb := n_law__web_text.d)) (pvl 4 n_law__due) (nomark _)) (pe_one (pe_cmpR (op_eqD hv) (pe_fld  (pvl 3 n_law__web) rfl) (pe_callTy call_tuple_of n_law__tuple.g T.tuple pb_tuple (pa_cons (pvl 2 n_law__roads) pa_nil) (hn := n_law__tuple.n) (hdb := n_law__tuple.d)) (nomark _))))))))))))))), ?_⟩
    rw [show L2.start ["script", "many", "roads", "web", "due", "text", "found", "k"] [V.ref a] = [some (V.ref a), none, none, none, none, none, none, none] from rfl]
    refine cutS fun N1 h1 => ?_
    walk_at "rd"
    refine ⟨a, ns, 25, rfl, ha, by decide, by decide, fun ln nu H1 n1 s1 en nul => ?_⟩
    refine ⟨ln, nu, rfl, en, by omega, by omega, fun t l m ps rs H2 nt nl s2 et el ro g => ?_⟩
    have m1 := g.m1
    have m24 := g.m24
    have glen := g.len
    have hlen : ps.length = rs.length := Paired.length ro
    refine ⟨t, rfl, _, SqT.of et, rfl, _, _, rfl, _, _, rfl, rfl, h1 _ _ (cutS fun N2 h2 => ?_)⟩
    clear ha en s1 s2 et nt nl n1 h1
    walk_at "rd"
    refine ⟨_, .inl (SqL.of el), fun q nq => ?_⟩
    have s2 := Same.new (.lst (ps.map V.ref)) nq
    refine mk_web T (c := true) (SqL.of upd_same) (RoadsAt.same s2 ro) g fun x tw H3 hx htw s3 W => h2 _ _ (cutS fun N3 h3 => ?_)
    have el3 := (s2.trans s3) _ _ el
    have ro3 := RoadsAt.same (s2.trans s3) ro
    clear s2 s3 hx htw nq h2 el ro
    walk_at "rd"
    have mb : m.toNat < 2 ^ 4000 := Nat.lt_of_lt_of_le (show m.toNat < 2 ^ 5 by omega) (Nat.pow_le_pow_right (by decide) (by decide))
    have em : V.int m = V.int (m.toNat : Int) := by rw [Int.toNat_of_nonneg (by omega)]
    have lw : (Str.ofString "web ").length = 4 := rfl
    have lr : (Str.ofString "road ").length = 5 := rfl
    have sl : 3000 ≤ sizeLine := by decide
    have fl := FS_len mb
    refine ⟨by simp [tyV], m.toNat, by rw [em], mb, _, rfl, _, rfl, by omega, smallE (by simp), fun p np => ?_⟩
    rw [rwt_one]
    have s4 := Same.new (.lst [V.str (rwt hWeb [m.toNat])]) np
    have ep : upd H3 p (.lst [V.str (rwt hWeb [m.toNat])]) p = some (.lst [V.str (rwt hWeb [m.toNat])]) := upd_same
    generalize upd H3 p (.lst [V.str (rwt hWeb [m.toNat])]) = H4 at s4 ep ⊢
    refine ⟨⟨_, SqL.of (s4 _ _ el3)⟩, fun pc npc => ?_⟩
    refine comp_any (K := K) (c := true) (a := l) (xs := ps.map V.ref) (fun i ys σ H5 => Same H4 H5 ∧ H5 pc = some (.lst ys) ∧ ys = ((rs.take i).map wrow).map V.str ∧ ∃ v, σ = [v]) ⟨Same.new _ npc, upd_same, by simp, _, rfl⟩ (fun i ys σ H5 _ ⟨z, _⟩ => SqL.of (z _ _ (s4 _ _ el3))) ?_ ?_
    · rintro i y ys σ H5 N hN hi ⟨s5, h5, rfl, v, rfl⟩
      obtain ⟨q, r, rfl, hq1, h2, h3⟩ := ro3.get hi
      have et : rs.take (i + 1) = rs.take i ++ [r] := by rw [List.take_succ, h2]; rfl
      have hil : i < rs.length := (List.getElem?_eq_some_iff.mp h2).1
      obtain ⟨rv, rb⟩ := rd_v (g.ok r (List.mem_of_getElem? h2)) m24
      have rb4 : ∀ n ∈ rdNs r, n < 2 ^ 4000 := fun n hn => Nat.lt_trans (rb n hn) (by decide)
      have h3' := s5 _ _ (s4 _ _ h3)
      rw [rv] at h3'
      walk_at "rd"
      refine ⟨q, false, rdNs r, rfl, h3', (show 4 ≤ 100 by decide), rb4, fun H6 s6 => ⟨_, rfl, _, rfl, ?_, s6 _ _ h5, small (by simp only [List.length_map, List.length_take]; omega), hN _ _ _ ⟨?_, upd_same, ?_, _, rfl⟩⟩⟩
      · have : (wds (rdNs r)).length ≤ 61 * 4 := wds_len rb
        omega
      · exact fun b o e => by rw [upd_ne (ne_of_none e npc)]; exact s6 _ _ (s5 _ _ e)
      · rw [et, List.map_append, List.map_append, show Str.ofString "road " ++ wds (rdNs r) = wrow r from rwt_more]
        rfl
    · rintro ys σ H5 ⟨s5, h5, rfl, v, rfl⟩
      rw [List.length_map, hlen, List.take_length] at h5
      refine ⟨p, pc, _, _, rfl, rfl, s5 _ _ ep, h5, smallE (by simp only [List.length_map, List.length_cons, List.length_nil]; omega), fun p6 np6 => ?_⟩
      refine ⟨_, p6, wrows m rs, rfl, rfl, SqL.of upd_same, wrows_ok g, ?_⟩
      rw [show Str.join (Str.ofString "\n") (wrows m rs) = wbt m rs from rfl]
      refine h3 _ _ (cutS fun N4 h4 => ?_)
      have s6 := (s4.trans s5).trans (Same.new (.lst ([V.str (rwt hWeb [m.toNat])] ++ (rs.map wrow).map V.str)) np6)
      have el6 := s6 _ _ el3
      have ro6 := RoadsAt.same s6 ro3
      have W6 := W.same s6
      generalize upd H5 p6 (.lst ([V.str (rwt hWeb [m.toNat])] ++ (rs.map wrow).map V.str)) = H6 at el6 ro6 W6 ⊢
      clear s4 s5 s6 el3 ro3 W h3 ep h5 np npc np6 fl lw lr
      walk_at "rd"
      refine ⟨x, tw, m, ps, rs, rfl, W6, fun H7 s7 => h4 _ _ (cutS fun N5 h5 => ?_)⟩
      have el7 := s7 _ _ el6
      have ro7 := RoadsAt.same s7 ro6
      have W7 := W6.same s7
      clear s7 el6 ro6 W6 h4
      walk_at "rd"
      refine ⟨_, _, _, true, rfl, .str _, fun cv h => by cases h; rfl, _, rfl, ?_⟩
      rw [if_neg (by simp), if_neg (fun z => z trivial)]
      refine h5 _ _ (cutS fun N6 h6 => ?_)
      clear h5
      walk_at "rd"
      refine ⟨m, rs, rfl, g, fun y ty qs H8 ny s8 Y => h6 _ _ (cutS fun N7 h7 => ?_)⟩
      have el8 := s8 _ _ el7
      have ro8 := RoadsAt.same s8 ro7
      have W8 := W7.same s8
      clear s8 el7 ro7 W7 h6 ny
      obtain ⟨dy, oy⟩ := Y.ob
      walk_at "rd"
      refine is_own T.cl_Web T.iw_Web oy ⟨_, rfl, ?_⟩
      rw [if_neg (by simp)]
      refine ⟨T.Web, dy, _, oy, T.cl_Web, T.n_many, _, wflds_many m ty, m, rfl, ⟨_, rfl, ?_⟩⟩
      rw [if_neg (by simp)]
      refine ⟨T.Web, dy, _, oy, T.cl_Web, T.n_many, _, wflds_many m ty, by simp [scal], ?_⟩
      rw [if_neg (fun z => z rfl)]
      refine h7 _ _ (cutS fun N8 h8 => ?_)
      clear h7
      walk_at "rd"
      refine ⟨T.Web, dy, _, oy, T.cl_Web, T.n_roads, _, wflds_roads m ty, ⟨_, _, _, true, rfl, .tup Y.tu, fun cv h => by cases h; rfl, _, rfl, ?_⟩⟩
      rw [if_neg (by simp)]
      have qlen : qs.length = rs.length := Paired.length Y.ro
      refine ⟨T.Web, dy, _, oy, T.cl_Web, T.n_roads, _, wflds_roads m ty, ty, rfl, _, .inr (SqT.of Y.tu), _, .inl (SqL.of el8), ?_⟩
      rw [if_neg (by rw [List.length_map, List.length_map, qlen, hlen]; exact fun z => z rfl)]
      refine h8 _ _ (cutS fun N9 h9 => ?_)
      clear h8
      walk_at "rd"
      refine ⟨_, .inl (SqL.of el8), by rw [List.length_map]; omega, by rw [List.length_map]; omega, ?_⟩
      refine for_rangeH (fun i σ H9 => Same H8 H9 ∧ ∃ v7, σ = [some (V.ref a), some (V.int m), some (V.ref l), some (V.ref x), some (V.str (wbt m rs)), some (V.str (wbt m rs)), some (V.ref y), v7]) ⟨Same.refl _, _, rfl⟩ ?_ ?_
      · rintro i σ H9 N' CC hCC hN' hi ⟨s9, v7, rfl⟩
        refine hCC _ _ ?_
        walk_at "rd"
        rw [List.length_map, hlen] at hi
        obtain ⟨q1, r1, g1, g2, g3⟩ := pr_nth Y.ro (i := i) (by omega)
        obtain ⟨q2, r2, f1, f2, f3⟩ := pr_nth ro8 (i := i) (by omega)
        rw [g2] at f2
        cases f2
        have oy9 := s9 _ _ oy
        have g4 := s9 _ _ g3
        have ty9 := s9 _ _ Y.tu
        refine ⟨T.Web, dy, _, oy9, T.cl_Web, T.n_roads, _, wflds_roads m ty, ixT ty9 g1 ⟨_, _, _, true, rfl, .tup g4, fun cv h => by cases h; rfl, _, rfl, ?_⟩⟩
        rw [if_neg (by simp)]
        refine ⟨T.Web, dy, _, oy9, T.cl_Web, T.n_roads, _, wflds_roads m ty, ixT ty9 g1 (ixL (s9 _ _ el8) f1 ⟨q1, q2, false, [r1.a, r1.b, r1.t, r1.u], rfl, SqT.of g4, SqT.of (s9 _ _ f3), (show 4 ≤ 1000 by decide), fun H10 s10 => ⟨_, rfl, ?_⟩⟩)⟩
        rw [if_neg (by simp)]
        exact hN' _ _ ⟨s9.trans s10, _, rfl⟩
      · rintro CC σ H9 hCC ⟨s9, v7, rfl⟩
        refine hCC _ _ (h9 _ _ ?_)
        walk_at "rd"
        refine ⟨y, ty, m, qs, rs, rfl, Y.same s9, fun H10 s10 => ⟨by simp [scal], ?_⟩⟩
        rw [if_pos rfl]
        have s810 := s9.trans s10
        have W10 := W8.same s810
        obtain ⟨dx, ox⟩ := W10.ob
        refine ⟨T.Web, dx, _, ox, T.cl_Web, T.n_roads, _, wflds_roads m tw, _, .inl ⟨SqL.of (s810 _ _ el8), fun lt nlt => ?_⟩⟩
        have sn := Same.new (.tup (ps.map V.ref)) nlt
        exact eq_roads (sn _ _ W10.tu) upd_same (RoadsAt.same sn W10.ro) (RoadsAt.same (s810.trans sn) ro8) (k _)
end
theorem quiet0 : Quiet CX0 := fun _ _ _ _ _ h => h
theorem all_mk {l : PySem.W.OpenLaw} {w : World} {K : PySem.W.Frag} {h : Heap} {mg : Str → Option Value} {fa : Addr} {C_BadWeb : Addr} {C_BadText : Addr} {C_Web : Addr} {f_check_counts : Addr} {od_check_counts an_check_counts : Option Addr} {sl_check_counts : Array (Option Value)} {oc_check_counts kV_check_counts dc_check_counts pm_check_counts cd_check_counts ct_check_counts : Value} {f_is_place : Addr} {od_is_place an_is_place : Option Addr} {sl_is_place : Array (Option Value)} {oc_is_place kV_is_place dc_is_place pm_is_place cd_is_place ct_is_place : Value} {f_check_ends : Addr} {od_check_ends an_check_ends : Option Addr} {sl_check_ends : Array (Option Value)} {oc_check_ends kV_check_ends dc_check_ends pm_check_ends cd_check_ends ct_check_ends : Value} {f_other_ends : Addr} {od_other_ends an_other_ends : Option Addr} {sl_other_ends : Array (Option Value)} {oc_other_ends kV_other_ends dc_other_ends pm_other_ends cd_other_ends ct_other_ends : Value} {f_check_joined : Addr} {od_check_joined an_check_joined : Option Addr} {sl_check_joined : Array (Option Value)} {oc_check_joined kV_check_joined dc_check_joined pm_check_joined cd_check_joined ct_check_joined : Value} {f_check_tolls : Addr} {od_check_tolls an_check_tolls : Option Addr} {sl_check_tolls : Array (Option Value)} {oc_check_tolls kV_check_tolls dc_check_tolls pm_check_tolls cd_check_tolls ct_check_tolls : Value} {f_Web___init__ : Addr} {od_Web___init__ an_Web___init__ : Option Addr} {sl_Web___init__ : Array (Option Value)} {oc_Web___init__ kV_Web___init__ dc_Web___init__ pm_Web___init__ cd_Web___init__ ct_Web___init__ : Value} {f_law_figures : Addr} {od_law_figures an_law_figures : Option Addr} {sl_law_figures : Array (Option Value)} {oc_law_figures kV_law_figures dc_law_figures pm_law_figures cd_law_figures ct_law_figures : Value} {f_law_cell : Addr} {od_law_cell an_law_cell : Option Addr} {sl_law_cell : Array (Option Value)} {oc_law_cell kV_law_cell dc_law_cell pm_law_cell cd_law_cell ct_law_cell : Value} {f_law_mixed : Addr} {od_law_mixed an_law_mixed : Option Addr} {sl_law_mixed : Array (Option Value)} {oc_law_mixed kV_law_mixed dc_law_mixed pm_law_mixed cd_law_mixed ct_law_mixed : Value} {f_law_numbers : Addr} {od_law_numbers an_law_numbers : Option Addr} {sl_law_numbers : Array (Option Value)} {oc_law_numbers kV_law_numbers dc_law_numbers pm_law_numbers cd_law_numbers ct_law_numbers : Value} {f_law_toll : Addr} {od_law_toll an_law_toll : Option Addr} {sl_law_toll : Array (Option Value)} {oc_law_toll kV_law_toll dc_law_toll pm_law_toll cd_law_toll ct_law_toll : Value} {f_law_web : Addr} {od_law_web an_law_web : Option Addr} {sl_law_web : Array (Option Value)} {oc_law_web kV_law_web dc_law_web pm_law_web cd_law_web ct_law_web : Value} {f_law_whole : Addr} {od_law_whole an_law_whole : Option Addr} {sl_law_whole : Array (Option Value)} {oc_law_whole kV_law_whole dc_law_whole pm_law_whole cd_law_whole ct_law_whole : Value} {f_law_wholes : Addr} {od_law_wholes an_law_wholes : Option Addr} {sl_law_wholes : Array (Option Value)} {oc_law_wholes kV_law_wholes dc_law_wholes pm_law_wholes cd_law_wholes ct_law_wholes : Value} {f_law_words : Addr} {od_law_words an_law_words : Option Addr} {sl_law_words : Array (Option Value)} {oc_law_words kV_law_words dc_law_words pm_law_words cd_law_words ct_law_words : Value} {f_check_end : Addr} {od_check_end an_check_end : Option Addr} {sl_check_end : Array (Option Value)} {oc_check_end kV_check_end dc_check_end pm_check_end cd_check_end ct_check_end : Value} {f_is_number : Addr} {od_is_number an_is_number : Option Addr} {sl_is_number : Array (Option Value)} {oc_is_number kV_is_number dc_is_number pm_is_number cd_is_number ct_is_number : Value} {f_read_number : Addr} {od_read_number an_read_number : Option Addr} {sl_read_number : Array (Option Value)} {oc_read_number kV_read_number dc_read_number pm_read_number cd_read_number ct_read_number : Value} {f_read_words : Addr} {od_read_words an_read_words : Option Addr} {sl_read_words : Array (Option Value)} {oc_read_words kV_read_words dc_read_words pm_read_words cd_read_words ct_read_words : Value} {f_read_row : Addr} {od_read_row an_read_row : Option Addr} {sl_read_row : Array (Option Value)} {oc_read_row kV_read_row dc_read_row pm_read_row cd_read_row ct_read_row : Value} {f_read_web : Addr} {od_read_web an_read_web : Option Addr} {sl_read_web : Array (Option Value)} {oc_read_web kV_read_web dc_read_web pm_read_web cd_read_web ct_read_web : Value} {f_number_text : Addr} {od_number_text an_number_text : Option Addr} {sl_number_text : Array (Option Value)} {oc_number_text kV_number_text dc_number_text pm_number_text cd_number_text ct_number_text : Value} {f_numbers_text : Addr} {od_numbers_text an_numbers_text : Option Addr} {sl_numbers_text : Array (Option Value)} {oc_numbers_text kV_numbers_text dc_numbers_text pm_numbers_text cd_numbers_text ct_numbers_text : Value} {f_web_text : Addr} {od_web_text an_web_text : Option Addr} {sl_web_text : Array (Option Value)} {oc_web_text kV_web_text dc_web_text pm_web_text cd_web_text ct_web_text : Value} {f_law : Addr} {od_law an_law : Option Addr} {sl_law : Array (Option Value)} {oc_law kV_law dc_law pm_law cd_law ct_law : Value} {t_MOST_PLACES : Tok} {t_LEAST_TOLL : Tok} {t_MOST_TOLL : Tok} {t_FIGURES : Tok} {t_MOST_FIGURES : Tok} {t_PIECE : Tok} {t_PIECE_FIGURES : Tok} (X : K.In h) (G : h.Ns mainGlobals mg) (hfa : mg "law" = some (.ref fa))
    (ac_BadWeb : PySem.W.nsIn K mainGlobals "BadWeb" = some (some (.ref C_BadWeb)))
    (ac_BadText : PySem.W.nsIn K mainGlobals "BadText" = some (some (.ref C_BadText)))
    (ac_Web : PySem.W.nsIn K mainGlobals "Web" = some (some (.ref C_Web)))
    (a_check_counts : PySem.W.nsIn K mainGlobals "check_counts" = some (some (.ref f_check_counts)))
    (l_check_counts : K.lookup f_check_counts = some ⟨oc_check_counts, od_check_counts, .func (PySem.W.fnOf "check_counts" "check_counts" (defArgs s_check_counts) (defBody s_check_counts) (defScope s_check_counts) .none kV_check_counts dc_check_counts pm_check_counts an_check_counts cd_check_counts ct_check_counts), sl_check_counts⟩)
    (c_check_counts : PySem.W.codeIn K cd_check_counts "check_counts" = true)
    (k_check_counts : PySem.W.keepIn K (.ref f_check_counts) = true)
    (a_is_place : PySem.W.nsIn K mainGlobals "is_place" = some (some (.ref f_is_place)))
    (l_is_place : K.lookup f_is_place = some ⟨oc_is_place, od_is_place, .func (PySem.W.fnOf "is_place" "is_place" (defArgs s_is_place) (defBody s_is_place) (defScope s_is_place) .none kV_is_place dc_is_place pm_is_place an_is_place cd_is_place ct_is_place), sl_is_place⟩)
    (c_is_place : PySem.W.codeIn K cd_is_place "is_place" = true)
    (k_is_place : PySem.W.keepIn K (.ref f_is_place) = true)
    (a_check_ends : PySem.W.nsIn K mainGlobals "check_ends" = some (some (.ref f_check_ends)))
    (l_check_ends : K.lookup f_check_ends = some ⟨oc_check_ends, od_check_ends, .func (PySem.W.fnOf "check_ends" "check_ends" (defArgs s_check_ends) (defBody s_check_ends) (defScope s_check_ends) .none kV_check_ends dc_check_ends pm_check_ends an_check_ends cd_check_ends ct_check_ends), sl_check_ends⟩)
    (c_check_ends : PySem.W.codeIn K cd_check_ends "check_ends" = true)
    (k_check_ends : PySem.W.keepIn K (.ref f_check_ends) = true)
    (a_other_ends : PySem.W.nsIn K mainGlobals "other_ends" = some (some (.ref f_other_ends)))
    (l_other_ends : K.lookup f_other_ends = some ⟨oc_other_ends, od_other_ends, .func (PySem.W.fnOf "other_ends" "other_ends" (defArgs s_other_ends) (defBody s_other_ends) (defScope s_other_ends) .none kV_other_ends dc_other_ends pm_other_ends an_other_ends cd_other_ends ct_other_ends), sl_other_ends⟩)
    (c_other_ends : PySem.W.codeIn K cd_other_ends "other_ends" = true)
    (k_other_ends : PySem.W.keepIn K (.ref f_other_ends) = true)
    (a_check_joined : PySem.W.nsIn K mainGlobals "check_joined" = some (some (.ref f_check_joined)))
    (l_check_joined : K.lookup f_check_joined = some ⟨oc_check_joined, od_check_joined, .func (PySem.W.fnOf "check_joined" "check_joined" (defArgs s_check_joined) (defBody s_check_joined) (defScope s_check_joined) .none kV_check_joined dc_check_joined pm_check_joined an_check_joined cd_check_joined ct_check_joined), sl_check_joined⟩)
    (c_check_joined : PySem.W.codeIn K cd_check_joined "check_joined" = true)
    (k_check_joined : PySem.W.keepIn K (.ref f_check_joined) = true)
    (a_check_tolls : PySem.W.nsIn K mainGlobals "check_tolls" = some (some (.ref f_check_tolls)))
    (l_check_tolls : K.lookup f_check_tolls = some ⟨oc_check_tolls, od_check_tolls, .func (PySem.W.fnOf "check_tolls" "check_tolls" (defArgs s_check_tolls) (defBody s_check_tolls) (defScope s_check_tolls) .none kV_check_tolls dc_check_tolls pm_check_tolls an_check_tolls cd_check_tolls ct_check_tolls), sl_check_tolls⟩)
    (c_check_tolls : PySem.W.codeIn K cd_check_tolls "check_tolls" = true)
    (k_check_tolls : PySem.W.keepIn K (.ref f_check_tolls) = true)
    (a_Web___init__ : PySem.W.findIn K (.ref C_Web) "__init__" = some (some (.ref f_Web___init__)))
    (i_Web___init__ : PySem.W.isFn K (.ref f_Web___init__) = true)
    (l_Web___init__ : K.lookup f_Web___init__ = some ⟨oc_Web___init__, od_Web___init__, .func (PySem.W.fnOf "__init__" "Web.__init__" (defArgs s_Web___init__) (defBody s_Web___init__) (defScope s_Web___init__) .none kV_Web___init__ dc_Web___init__ pm_Web___init__ an_Web___init__ cd_Web___init__ ct_Web___init__), sl_Web___init__⟩)
    (c_Web___init__ : PySem.W.codeIn K cd_Web___init__ "Web.__init__" = true)
    (k_Web___init__ : PySem.W.keepIn K (.ref f_Web___init__) = true)
    (a_law_figures : PySem.W.nsIn K mainGlobals "_law_figures" = some (some (.ref f_law_figures)))
    (l_law_figures : K.lookup f_law_figures = some ⟨oc_law_figures, od_law_figures, .func (PySem.W.fnOf "_law_figures" "_law_figures" (defArgs s_law_figures) (defBody s_law_figures) (defScope s_law_figures) .none kV_law_figures dc_law_figures pm_law_figures an_law_figures cd_law_figures ct_law_figures), sl_law_figures⟩)
    (c_law_figures : PySem.W.codeIn K cd_law_figures "_law_figures" = true)
    (k_law_figures : PySem.W.keepIn K (.ref f_law_figures) = true)
    (a_law_cell : PySem.W.nsIn K mainGlobals "_law_cell" = some (some (.ref f_law_cell)))
    (l_law_cell : K.lookup f_law_cell = some ⟨oc_law_cell, od_law_cell, .func (PySem.W.fnOf "_law_cell" "_law_cell" (defArgs s_law_cell) (defBody s_law_cell) (defScope s_law_cell) .none kV_law_cell dc_law_cell pm_law_cell an_law_cell cd_law_cell ct_law_cell), sl_law_cell⟩)
    (c_law_cell : PySem.W.codeIn K cd_law_cell "_law_cell" = true)
    (k_law_cell : PySem.W.keepIn K (.ref f_law_cell) = true)
    (a_law_mixed : PySem.W.nsIn K mainGlobals "_law_mixed" = some (some (.ref f_law_mixed)))
    (l_law_mixed : K.lookup f_law_mixed = some ⟨oc_law_mixed, od_law_mixed, .func (PySem.W.fnOf "_law_mixed" "_law_mixed" (defArgs s_law_mixed) (defBody s_law_mixed) (defScope s_law_mixed) .none kV_law_mixed dc_law_mixed pm_law_mixed an_law_mixed cd_law_mixed ct_law_mixed), sl_law_mixed⟩)
    (c_law_mixed : PySem.W.codeIn K cd_law_mixed "_law_mixed" = true)
    (k_law_mixed : PySem.W.keepIn K (.ref f_law_mixed) = true)
    (a_law_numbers : PySem.W.nsIn K mainGlobals "_law_numbers" = some (some (.ref f_law_numbers)))
    (l_law_numbers : K.lookup f_law_numbers = some ⟨oc_law_numbers, od_law_numbers, .func (PySem.W.fnOf "_law_numbers" "_law_numbers" (defArgs s_law_numbers) (defBody s_law_numbers) (defScope s_law_numbers) .none kV_law_numbers dc_law_numbers pm_law_numbers an_law_numbers cd_law_numbers ct_law_numbers), sl_law_numbers⟩)
    (c_law_numbers : PySem.W.codeIn K cd_law_numbers "_law_numbers" = true)
    (k_law_numbers : PySem.W.keepIn K (.ref f_law_numbers) = true)
    (a_law_toll : PySem.W.nsIn K mainGlobals "_law_toll" = some (some (.ref f_law_toll)))
    (l_law_toll : K.lookup f_law_toll = some ⟨oc_law_toll, od_law_toll, .func (PySem.W.fnOf "_law_toll" "_law_toll" (defArgs s_law_toll) (defBody s_law_toll) (defScope s_law_toll) .none kV_law_toll dc_law_toll pm_law_toll an_law_toll cd_law_toll ct_law_toll), sl_law_toll⟩)
    (c_law_toll : PySem.W.codeIn K cd_law_toll "_law_toll" = true)
    (k_law_toll : PySem.W.keepIn K (.ref f_law_toll) = true)
    (a_law_web : PySem.W.nsIn K mainGlobals "_law_web" = some (some (.ref f_law_web)))
    (l_law_web : K.lookup f_law_web = some ⟨oc_law_web, od_law_web, .func (PySem.W.fnOf "_law_web" "_law_web" (defArgs s_law_web) (defBody s_law_web) (defScope s_law_web) .none kV_law_web dc_law_web pm_law_web an_law_web cd_law_web ct_law_web), sl_law_web⟩)
    (c_law_web : PySem.W.codeIn K cd_law_web "_law_web" = true)
    (k_law_web : PySem.W.keepIn K (.ref f_law_web) = true)
    (a_law_whole : PySem.W.nsIn K mainGlobals "_law_whole" = some (some (.ref f_law_whole)))
    (l_law_whole : K.lookup f_law_whole = some ⟨oc_law_whole, od_law_whole, .func (PySem.W.fnOf "_law_whole" "_law_whole" (defArgs s_law_whole) (defBody s_law_whole) (defScope s_law_whole) .none kV_law_whole dc_law_whole pm_law_whole an_law_whole cd_law_whole ct_law_whole), sl_law_whole⟩)
    (c_law_whole : PySem.W.codeIn K cd_law_whole "_law_whole" = true)
    (k_law_whole : PySem.W.keepIn K (.ref f_law_whole) = true)
    (a_law_wholes : PySem.W.nsIn K mainGlobals "_law_wholes" = some (some (.ref f_law_wholes)))
    (l_law_wholes : K.lookup f_law_wholes = some ⟨oc_law_wholes, od_law_wholes, .func (PySem.W.fnOf "_law_wholes" "_law_wholes" (defArgs s_law_wholes) (defBody s_law_wholes) (defScope s_law_wholes) .none kV_law_wholes dc_law_wholes pm_law_wholes an_law_wholes cd_law_wholes ct_law_wholes), sl_law_wholes⟩)
    (c_law_wholes : PySem.W.codeIn K cd_law_wholes "_law_wholes" = true)
    (k_law_wholes : PySem.W.keepIn K (.ref f_law_wholes) = true)
    (a_law_words : PySem.W.nsIn K mainGlobals "_law_words" = some (some (.ref f_law_words)))
    (l_law_words : K.lookup f_law_words = some ⟨oc_law_words, od_law_words, .func (PySem.W.fnOf "_law_words" "_law_words" (defArgs s_law_words) (defBody s_law_words) (defScope s_law_words) .none kV_law_words dc_law_words pm_law_words an_law_words cd_law_words ct_law_words), sl_law_words⟩)
    (c_law_words : PySem.W.codeIn K cd_law_words "_law_words" = true)
    (k_law_words : PySem.W.keepIn K (.ref f_law_words) = true)
    (a_check_end : PySem.W.nsIn K mainGlobals "check_end" = some (some (.ref f_check_end)))
    (l_check_end : K.lookup f_check_end = some ⟨oc_check_end, od_check_end, .func (PySem.W.fnOf "check_end" "check_end" (defArgs s_check_end) (defBody s_check_end) (defScope s_check_end) .none kV_check_end dc_check_end pm_check_end an_check_end cd_check_end ct_check_end), sl_check_end⟩)
    (c_check_end : PySem.W.codeIn K cd_check_end "check_end" = true)
    (k_check_end : PySem.W.keepIn K (.ref f_check_end) = true)
    (a_is_number : PySem.W.nsIn K mainGlobals "is_number" = some (some (.ref f_is_number)))
    (l_is_number : K.lookup f_is_number = some ⟨oc_is_number, od_is_number, .func (PySem.W.fnOf "is_number" "is_number" (defArgs s_is_number) (defBody s_is_number) (defScope s_is_number) .none kV_is_number dc_is_number pm_is_number an_is_number cd_is_number ct_is_number), sl_is_number⟩)
    (c_is_number : PySem.W.codeIn K cd_is_number "is_number" = true)
    (k_is_number : PySem.W.keepIn K (.ref f_is_number) = true)
    (a_read_number : PySem.W.nsIn K mainGlobals "read_number" = some (some (.ref f_read_number)))
    (l_read_number : K.lookup f_read_number = some ⟨oc_read_number, od_read_number, .func (PySem.W.fnOf "read_number" "read_number" (defArgs s_read_number) (defBody s_read_number) (defScope s_read_number) .none kV_read_number dc_read_number pm_read_number an_read_number cd_read_number ct_read_number), sl_read_number⟩)
    (c_read_number : PySem.W.codeIn K cd_read_number "read_number" = true)
    (k_read_number : PySem.W.keepIn K (.ref f_read_number) = true)
    (a_read_words : PySem.W.nsIn K mainGlobals "read_words" = some (some (.ref f_read_words)))
    (l_read_words : K.lookup f_read_words = some ⟨oc_read_words, od_read_words, .func (PySem.W.fnOf "read_words" "read_words" (defArgs s_read_words) (defBody s_read_words) (defScope s_read_words) .none kV_read_words dc_read_words pm_read_words an_read_words cd_read_words ct_read_words), sl_read_words⟩)
    (c_read_words : PySem.W.codeIn K cd_read_words "read_words" = true)
    (k_read_words : PySem.W.keepIn K (.ref f_read_words) = true)
    (a_read_row : PySem.W.nsIn K mainGlobals "read_row" = some (some (.ref f_read_row)))
    (l_read_row : K.lookup f_read_row = some ⟨oc_read_row, od_read_row, .func (PySem.W.fnOf "read_row" "read_row" (defArgs s_read_row) (defBody s_read_row) (defScope s_read_row) .none kV_read_row dc_read_row pm_read_row an_read_row cd_read_row ct_read_row), sl_read_row⟩)
    (c_read_row : PySem.W.codeIn K cd_read_row "read_row" = true)
    (k_read_row : PySem.W.keepIn K (.ref f_read_row) = true)
    (a_read_web : PySem.W.nsIn K mainGlobals "read_web" = some (some (.ref f_read_web)))
    (l_read_web : K.lookup f_read_web = some ⟨oc_read_web, od_read_web, .func (PySem.W.fnOf "read_web" "read_web" (defArgs s_read_web) (defBody s_read_web) (defScope s_read_web) .none kV_read_web dc_read_web pm_read_web an_read_web cd_read_web ct_read_web), sl_read_web⟩)
    (c_read_web : PySem.W.codeIn K cd_read_web "read_web" = true)
    (k_read_web : PySem.W.keepIn K (.ref f_read_web) = true)
    (a_number_text : PySem.W.nsIn K mainGlobals "number_text" = some (some (.ref f_number_text)))
    (l_number_text : K.lookup f_number_text = some ⟨oc_number_text, od_number_text, .func (PySem.W.fnOf "number_text" "number_text" (defArgs s_number_text) (defBody s_number_text) (defScope s_number_text) .none kV_number_text dc_number_text pm_number_text an_number_text cd_number_text ct_number_text), sl_number_text⟩)
    (c_number_text : PySem.W.codeIn K cd_number_text "number_text" = true)
    (k_number_text : PySem.W.keepIn K (.ref f_number_text) = true)
    (a_numbers_text : PySem.W.nsIn K mainGlobals "numbers_text" = some (some (.ref f_numbers_text)))
    (l_numbers_text : K.lookup f_numbers_text = some ⟨oc_numbers_text, od_numbers_text, .func (PySem.W.fnOf "numbers_text" "numbers_text" (defArgs s_numbers_text) (defBody s_numbers_text) (defScope s_numbers_text) .none kV_numbers_text dc_numbers_text pm_numbers_text an_numbers_text cd_numbers_text ct_numbers_text), sl_numbers_text⟩)
    (c_numbers_text : PySem.W.codeIn K cd_numbers_text "numbers_text" = true)
    (k_numbers_text : PySem.W.keepIn K (.ref f_numbers_text) = true)
    (a_web_text : PySem.W.nsIn K mainGlobals "web_text" = some (some (.ref f_web_text)))
    (l_web_text : K.lookup f_web_text = some ⟨oc_web_text, od_web_text, .func (PySem.W.fnOf "web_text" "web_text" (defArgs s_web_text) (defBody s_web_text) (defScope s_web_text) .none kV_web_text dc_web_text pm_web_text an_web_text cd_web_text ct_web_text), sl_web_text⟩)
    (c_web_text : PySem.W.codeIn K cd_web_text "web_text" = true)
    (k_web_text : PySem.W.keepIn K (.ref f_web_text) = true)
    (a_law : PySem.W.nsIn K mainGlobals "law" = some (some (.ref f_law)))
    (l_law : K.lookup f_law = some ⟨oc_law, od_law, .func (PySem.W.fnOf "law" "law" (defArgs s_law) (defBody s_law) (defScope s_law) .none kV_law dc_law pm_law an_law cd_law ct_law), sl_law⟩)
    (c_law : PySem.W.codeIn K cd_law "law" = true)
    (k_law : PySem.W.keepIn K (.ref f_law) = true)
    (pg_Web : PySem.W.plainGet K C_Web Str.empty = true)
    (hd_Web : PySem.W.hasDictIn K C_Web = true)
    (po_Web : PySem.W.plainOver K C_Web = true)
    (sa_Web : PySem.W.findIn K (.ref C_Web) "__setattr__" = some (some (.builtin "object.__setattr__")))
    (mk_Web : PySem.W.makesIn K C_Web = true)
    (kc_Web : PySem.W.keepIn K (.ref C_Web) = true)
    (nm_Web : PySem.W.findIn K (.ref C_Web) "many" = some none)
    (nr_Web : PySem.W.findIn K (.ref C_Web) "roads" = some none)
    (wa_Web : PySem.W.findIn K (.ref C_Web) "__class__" = some (some (.builtin "object.__class__")))
    (wn_Web : PySem.W.specialIn K (.builtin "object.__class__") "__get__" = some (some (.builtin "getset_descriptor.__get__")))
    (wt_Web : PySem.W.takesIn K (.builtin "object.__class__") = some true)
    (wm_Web : PySem.W.mroIn K C_Web (.type "object") = some true)
    (z_range : PySem.W.nsIn K mainGlobals "range" = some none)
    (z_len : PySem.W.nsIn K mainGlobals "len" = some none)
    (z_isinstance : PySem.W.nsIn K mainGlobals "isinstance" = some none)
    (z_all : PySem.W.nsIn K mainGlobals "all" = some none)
    (z_int : PySem.W.nsIn K mainGlobals "int" = some none)
    (z_bool : PySem.W.nsIn K mainGlobals "bool" = some none)
    (z_tuple : PySem.W.nsIn K mainGlobals "tuple" = some none)
    (z_list : PySem.W.nsIn K mainGlobals "list" = some none)
    (z_reversed : PySem.W.nsIn K mainGlobals "reversed" = some none)
    (z_sum : PySem.W.nsIn K mainGlobals "sum" = some none)
    (z_str : PySem.W.nsIn K mainGlobals "str" = some none)
    (v_MOST_PLACES : PySem.W.nsIn K mainGlobals "MOST_PLACES" = some (some (.int 24 t_MOST_PLACES)))
    (v_LEAST_TOLL : PySem.W.nsIn K mainGlobals "LEAST_TOLL" = some (some (.int 2 t_LEAST_TOLL)))
    (v_MOST_TOLL : PySem.W.nsIn K mainGlobals "MOST_TOLL" = some (some (.int 1000000 t_MOST_TOLL)))
    (v_FIGURES : PySem.W.nsIn K mainGlobals "FIGURES" = some (some (.str "0123456789" t_FIGURES)))
    (v_MOST_FIGURES : PySem.W.nsIn K mainGlobals "MOST_FIGURES" = some (some (.int 60 t_MOST_FIGURES)))
    (v_PIECE : PySem.W.nsIn K mainGlobals "PIECE" = some (some (.int 1000000000000000000 t_PIECE)))
    (v_PIECE_FIGURES : PySem.W.nsIn K mainGlobals "PIECE_FIGURES" = some (some (.int 18 t_PIECE_FIGURES))) :
    ∃ fd : FuncData, (∀ (s : Shared) (v : Value), BindsTo s fd ⟨[v], []⟩ [("script", v)]) ∧ ∀ base : Heap, K.In base → base.Ns mainGlobals mg → FnOk l.prog w K mg base CX0 6 fa fd ["script"] (spLaw K) := by
  have e := hfa.symm.trans (PySem.W.mg_of X G a_law)
  cases e
  let T : Txt K mg := ⟨C_BadWeb, PySem.W.mg_of X G ac_BadWeb, C_BadText, PySem.W.mg_of X G ac_BadText, C_Web, PySem.W.mg_of X G ac_Web, PySem.W.mg_none_of X G z_range, PySem.W.mg_none_of X G z_len, PySem.W.mg_none_of X G z_isinstance, PySem.W.mg_none_of X G z_all, PySem.W.mg_none_of X G z_int, PySem.W.mg_none_of X G z_bool, PySem.W.mg_none_of X G z_tuple, PySem.W.mg_none_of X G z_list, PySem.W.mg_none_of X G z_reversed, PySem.W.mg_none_of X G z_sum, PySem.W.mg_none_of X G z_str, ⟨_, PySem.W.mg_of X G v_MOST_PLACES⟩, ⟨_, PySem.W.mg_of X G v_LEAST_TOLL⟩, ⟨_, PySem.W.mg_of X G v_MOST_TOLL⟩, ⟨_, PySem.W.mg_of X G v_FIGURES⟩, ⟨_, PySem.W.mg_of X G v_MOST_FIGURES⟩, ⟨_, PySem.W.mg_of X G v_PIECE⟩, ⟨_, PySem.W.mg_of X G v_PIECE_FIGURES⟩, ⟨pg_Web, hd_Web, po_Web, sa_Web⟩, nm_Web, nr_Web, ⟨wa_Web, wn_Web, wt_Web, wm_Web⟩⟩
  have F_check_counts := fun_mk (st := s_check_counts) l_check_counts c_check_counts k_check_counts
  have b_check_counts := F_check_counts.binds (ps := ["many", "roads"]) fun _ _ _ _ _ _ us hl => by obtain ⟨u0, u1, rfl⟩ := us2 hl; rfl
  have D_check_counts : Df K mg "check_counts" s_check_counts ["many", "roads"] f_check_counts _ := ⟨F_check_counts, PySem.W.mg_of X G a_check_counts, b_check_counts⟩
  have F_is_place := fun_mk (st := s_is_place) l_is_place c_is_place k_is_place
  have b_is_place := F_is_place.binds (ps := ["many", "number"]) fun _ _ _ _ _ _ us hl => by obtain ⟨u0, u1, rfl⟩ := us2 hl; rfl
  have D_is_place : Df K mg "is_place" s_is_place ["many", "number"] f_is_place _ := ⟨F_is_place, PySem.W.mg_of X G a_is_place, b_is_place⟩
  have F_check_ends := fun_mk (st := s_check_ends) l_check_ends c_check_ends k_check_ends
  have b_check_ends := F_check_ends.binds (ps := ["many", "road"]) fun _ _ _ _ _ _ us hl => by obtain ⟨u0, u1, rfl⟩ := us2 hl; rfl
  have D_check_ends : Df K mg "check_ends" s_check_ends ["many", "road"] f_check_ends _ := ⟨F_check_ends, PySem.W.mg_of X G a_check_ends, b_check_ends⟩
  have F_other_ends := fun_mk (st := s_other_ends) l_other_ends c_other_ends k_other_ends
  have b_other_ends := F_other_ends.binds (ps := ["roads", "place"]) fun _ _ _ _ _ _ us hl => by obtain ⟨u0, u1, rfl⟩ := us2 hl; rfl
  have D_other_ends : Df K mg "other_ends" s_other_ends ["roads", "place"] f_other_ends _ := ⟨F_other_ends, PySem.W.mg_of X G a_other_ends, b_other_ends⟩
  have F_check_joined := fun_mk (st := s_check_joined) l_check_joined c_check_joined k_check_joined
  have b_check_joined := F_check_joined.binds (ps := ["many", "roads"]) fun _ _ _ _ _ _ us hl => by obtain ⟨u0, u1, rfl⟩ := us2 hl; rfl
  have D_check_joined : Df K mg "check_joined" s_check_joined ["many", "roads"] f_check_joined _ := ⟨F_check_joined, PySem.W.mg_of X G a_check_joined, b_check_joined⟩
  have F_check_tolls := fun_mk (st := s_check_tolls) l_check_tolls c_check_tolls k_check_tolls
  have b_check_tolls := F_check_tolls.binds (ps := ["road"]) fun _ _ _ _ _ _ us hl => by obtain ⟨u0, rfl⟩ := us1 hl; rfl
  have D_check_tolls : Df K mg "check_tolls" s_check_tolls ["road"] f_check_tolls _ := ⟨F_check_tolls, PySem.W.mg_of X G a_check_tolls, b_check_tolls⟩
  have F_Web___init__ := fun_mk (st := s_Web___init__) l_Web___init__ c_Web___init__ k_Web___init__
  have b_Web := F_Web___init__.binds (ps := ["self", "many", "roads"]) fun _ _ _ _ _ _ us hl => by obtain ⟨u0, u1, u2, rfl⟩ := us3 hl; rfl
  have F_law_figures := fun_mk (st := s_law_figures) l_law_figures c_law_figures k_law_figures
  have b_law_figures := F_law_figures.binds (ps := ["number"]) fun _ _ _ _ _ _ us hl => by obtain ⟨u0, rfl⟩ := us1 hl; rfl
  have D_law_figures : Df K mg "_law_figures" s_law_figures ["number"] f_law_figures _ := ⟨F_law_figures, PySem.W.mg_of X G a_law_figures, b_law_figures⟩
  have F_law_cell := fun_mk (st := s_law_cell) l_law_cell c_law_cell k_law_cell
  have b_law_cell := F_law_cell.binds (ps := ["script", "k"]) fun _ _ _ _ _ _ us hl => by obtain ⟨u0, u1, rfl⟩ := us2 hl; rfl
  have D_law_cell : Df K mg "_law_cell" s_law_cell ["script", "k"] f_law_cell _ := ⟨F_law_cell, PySem.W.mg_of X G a_law_cell, b_law_cell⟩
  have F_law_mixed := fun_mk (st := s_law_mixed) l_law_mixed c_law_mixed k_law_mixed
  have b_law_mixed := F_law_mixed.binds (ps := ["cell", "k"]) fun _ _ _ _ _ _ us hl => by obtain ⟨u0, u1, rfl⟩ := us2 hl; rfl
  have D_law_mixed : Df K mg "_law_mixed" s_law_mixed ["cell", "k"] f_law_mixed _ := ⟨F_law_mixed, PySem.W.mg_of X G a_law_mixed, b_law_mixed⟩
  have F_law_numbers := fun_mk (st := s_law_numbers) l_law_numbers c_law_numbers k_law_numbers
  have b_law_numbers := F_law_numbers.binds (ps := ["script", "many"]) fun _ _ _ _ _ _ us hl => by obtain ⟨u0, u1, rfl⟩ := us2 hl; rfl
  have D_law_numbers : Df K mg "_law_numbers" s_law_numbers ["script", "many"] f_law_numbers _ := ⟨F_law_numbers, PySem.W.mg_of X G a_law_numbers, b_law_numbers⟩
  have F_law_toll := fun_mk (st := s_law_toll) l_law_toll c_law_toll k_law_toll
  have b_law_toll := F_law_toll.binds (ps := ["rest"]) fun _ _ _ _ _ _ us hl => by obtain ⟨u0, rfl⟩ := us1 hl; rfl
  have D_law_toll : Df K mg "_law_toll" s_law_toll ["rest"] f_law_toll _ := ⟨F_law_toll, PySem.W.mg_of X G a_law_toll, b_law_toll⟩
  have F_law_web := fun_mk (st := s_law_web) l_law_web c_law_web k_law_web
  have b_law_web := F_law_web.binds (ps := ["numbers"]) fun _ _ _ _ _ _ us hl => by obtain ⟨u0, rfl⟩ := us1 hl; rfl
  have D_law_web : Df K mg "_law_web" s_law_web ["numbers"] f_law_web _ := ⟨F_law_web, PySem.W.mg_of X G a_law_web, b_law_web⟩
  have F_law_whole := fun_mk (st := s_law_whole) l_law_whole c_law_whole k_law_whole
  have b_law_whole := F_law_whole.binds (ps := ["found"]) fun _ _ _ _ _ _ us hl => by obtain ⟨u0, rfl⟩ := us1 hl; rfl
  have D_law_whole : Df K mg "_law_whole" s_law_whole ["found"] f_law_whole _ := ⟨F_law_whole, PySem.W.mg_of X G a_law_whole, b_law_whole⟩
  have F_law_wholes := fun_mk (st := s_law_wholes) l_law_wholes c_law_wholes k_law_wholes
  have b_law_wholes := F_law_wholes.binds (ps := ["found", "due"]) fun _ _ _ _ _ _ us hl => by obtain ⟨u0, u1, rfl⟩ := us2 hl; rfl
  have D_law_wholes : Df K mg "_law_wholes" s_law_wholes ["found", "due"] f_law_wholes _ := ⟨F_law_wholes, PySem.W.mg_of X G a_law_wholes, b_law_wholes⟩
  have F_law_words := fun_mk (st := s_law_words) l_law_words c_law_words k_law_words
  have b_law_words := F_law_words.binds (ps := ["road"]) fun _ _ _ _ _ _ us hl => by obtain ⟨u0, rfl⟩ := us1 hl; rfl
  have D_law_words : Df K mg "_law_words" s_law_words ["road"] f_law_words _ := ⟨F_law_words, PySem.W.mg_of X G a_law_words, b_law_words⟩
  have F_check_end := fun_mk (st := s_check_end) l_check_end c_check_end k_check_end
  have b_check_end := F_check_end.binds (ps := ["rows", "last"]) fun _ _ _ _ _ _ us hl => by obtain ⟨u0, u1, rfl⟩ := us2 hl; rfl
  have D_check_end : Df K mg "check_end" s_check_end ["rows", "last"] f_check_end _ := ⟨F_check_end, PySem.W.mg_of X G a_check_end, b_check_end⟩
  have F_is_number := fun_mk (st := s_is_number) l_is_number c_is_number k_is_number
  have b_is_number := F_is_number.binds (ps := ["word"]) fun _ _ _ _ _ _ us hl => by obtain ⟨u0, rfl⟩ := us1 hl; rfl
  have D_is_number : Df K mg "is_number" s_is_number ["word"] f_is_number _ := ⟨F_is_number, PySem.W.mg_of X G a_is_number, b_is_number⟩
  have F_read_number := fun_mk (st := s_read_number) l_read_number c_read_number k_read_number
  have b_read_number := F_read_number.binds (ps := ["word", "at"]) fun _ _ _ _ _ _ us hl => by obtain ⟨u0, u1, rfl⟩ := us2 hl; rfl
  have D_read_number : Df K mg "read_number" s_read_number ["word", "at"] f_read_number _ := ⟨F_read_number, PySem.W.mg_of X G a_read_number, b_read_number⟩
  have F_read_words := fun_mk (st := s_read_words) l_read_words c_read_words k_read_words
  have b_read_words := F_read_words.binds (ps := ["words", "many", "at"]) fun _ _ _ _ _ _ us hl => by obtain ⟨u0, u1, u2, rfl⟩ := us3 hl; rfl
  have D_read_words : Df K mg "read_words" s_read_words ["words", "many", "at"] f_read_words _ := ⟨F_read_words, PySem.W.mg_of X G a_read_words, b_read_words⟩
  have F_read_row := fun_mk (st := s_read_row) l_read_row c_read_row k_read_row
  have b_read_row := F_read_row.binds (ps := ["rows", "at", "head", "many"]) fun _ _ _ _ _ _ us hl => by obtain ⟨u0, u1, u2, u3, rfl⟩ := us4 hl; rfl
  have D_read_row : Df K mg "read_row" s_read_row ["rows", "at", "head", "many"] f_read_row _ := ⟨F_read_row, PySem.W.mg_of X G a_read_row, b_read_row⟩
  have F_read_web := fun_mk (st := s_read_web) l_read_web c_read_web k_read_web
  have b_read_web := F_read_web.binds (ps := ["text"]) fun _ _ _ _ _ _ us hl => by obtain ⟨u0, rfl⟩ := us1 hl; rfl
  have D_read_web : Df K mg "read_web" s_read_web ["text"] f_read_web _ := ⟨F_read_web, PySem.W.mg_of X G a_read_web, b_read_web⟩
  have F_number_text := fun_mk (st := s_number_text) l_number_text c_number_text k_number_text
  have b_number_text := F_number_text.binds (ps := ["number"]) fun _ _ _ _ _ _ us hl => by obtain ⟨u0, rfl⟩ := us1 hl; rfl
  have D_number_text : Df K mg "number_text" s_number_text ["number"] f_number_text _ := ⟨F_number_text, PySem.W.mg_of X G a_number_text, b_number_text⟩
  have F_numbers_text := fun_mk (st := s_numbers_text) l_numbers_text c_numbers_text k_numbers_text
  have b_numbers_text := F_numbers_text.binds (ps := ["numbers"]) fun _ _ _ _ _ _ us hl => by obtain ⟨u0, rfl⟩ := us1 hl; rfl
  have D_numbers_text : Df K mg "numbers_text" s_numbers_text ["numbers"] f_numbers_text _ := ⟨F_numbers_text, PySem.W.mg_of X G a_numbers_text, b_numbers_text⟩
  have F_web_text := fun_mk (st := s_web_text) l_web_text c_web_text k_web_text
  have b_web_text := F_web_text.binds (ps := ["web"]) fun _ _ _ _ _ _ us hl => by obtain ⟨u0, rfl⟩ := us1 hl; rfl
  have D_web_text : Df K mg "web_text" s_web_text ["web"] f_web_text _ := ⟨F_web_text, PySem.W.mg_of X G a_web_text, b_web_text⟩
  have F_law := fun_mk (st := s_law) l_law c_law k_law
  have b_law := F_law.binds (ps := ["script"]) fun _ _ _ _ _ _ us hl => by obtain ⟨u0, rfl⟩ := us1 hl; rfl
  have D_law : Df K mg "law" s_law ["script"] fa _ := ⟨F_law, PySem.W.mg_of X G a_law, b_law⟩
  refine ⟨PySem.W.fnOf "law" "law" (defArgs s_law) (defBody s_law) (defScope s_law) .none kV_law dc_law pm_law an_law cd_law ct_law, fun s v => .of_eq rfl, fun base _ _ => ?_⟩
  have M_Web : Mk K T.Web f_Web___init__ := ⟨mk_Web, a_Web___init__, i_Web___init__, kc_Web⟩
  have G_check_counts := ok_check_counts (P := l.prog) (w := w) (base := base) T quiet0 D_check_counts
  have G_is_place := ok_is_place (P := l.prog) (w := w) (base := base) T quiet0 D_is_place
  have G_check_ends := ok_check_ends (P := l.prog) (w := w) (base := base) T quiet0 D_check_ends D_is_place G_is_place
  have G_other_ends := ok_other_ends (P := l.prog) (w := w) (base := base) T quiet0 D_other_ends
  have G_check_joined := ok_check_joined (P := l.prog) (w := w) (base := base) T quiet0 D_check_joined D_other_ends G_other_ends
  have G_check_tolls := ok_check_tolls (P := l.prog) (w := w) (base := base) T quiet0 D_check_tolls
  have G_Web_init := ok_Web___init__ (P := l.prog) (w := w) (base := base) T quiet0 F_Web___init__ D_check_counts G_check_counts D_check_ends G_check_ends D_check_joined G_check_joined D_check_tolls G_check_tolls
  have G_law_figures := ok_law_figures (P := l.prog) (w := w) (base := base) T quiet0 D_law_figures
  have G_law_cell := ok_law_cell (P := l.prog) (w := w) (base := base) T quiet0 D_law_cell
  have G_law_mixed := ok_law_mixed (P := l.prog) (w := w) (base := base) T quiet0 D_law_mixed
  have G_law_numbers := ok_law_numbers (P := l.prog) (w := w) (base := base) T quiet0 D_law_numbers D_law_cell G_law_cell D_law_mixed G_law_mixed
  have G_law_toll := ok_law_toll (P := l.prog) (w := w) (base := base) T quiet0 D_law_toll
  have G_law_web := ok_law_web (P := l.prog) (w := w) (base := base) T quiet0 D_law_web D_law_toll G_law_toll
  have G_law_whole := ok_law_whole (P := l.prog) (w := w) (base := base) T quiet0 D_law_whole
  have G_law_wholes := ok_law_wholes (P := l.prog) (w := w) (base := base) T quiet0 D_law_wholes D_law_whole G_law_whole
  have G_law_words := ok_law_words (P := l.prog) (w := w) (base := base) T quiet0 D_law_words D_law_figures G_law_figures
  have G_check_end := ok_check_end (P := l.prog) (w := w) (base := base) T quiet0 D_check_end
  have G_is_number := ok_is_number (P := l.prog) (w := w) (base := base) T quiet0 D_is_number
  have G_read_number := ok_read_number (P := l.prog) (w := w) (base := base) T quiet0 D_read_number D_is_number G_is_number
  have G_read_words := ok_read_words (P := l.prog) (w := w) (base := base) T quiet0 D_read_words D_read_number G_read_number
  have G_read_row := ok_read_row (P := l.prog) (w := w) (base := base) T quiet0 D_read_row D_read_words G_read_words
  have G_read_web := ok_read_web (P := l.prog) (w := w) (base := base) T quiet0 D_read_web F_Web___init__ b_Web M_Web G_Web_init D_check_end G_check_end D_read_row G_read_row
  have G_number_text := ok_number_text (P := l.prog) (w := w) (base := base) T quiet0 D_number_text
  have G_numbers_text := ok_numbers_text (P := l.prog) (w := w) (base := base) T quiet0 D_numbers_text D_number_text G_number_text
  have G_web_text := ok_web_text (P := l.prog) (w := w) (base := base) T quiet0 D_web_text D_number_text G_number_text D_numbers_text G_numbers_text
  have G_law := ok_law (P := l.prog) (w := w) (base := base) T quiet0 D_law F_Web___init__ b_Web M_Web G_Web_init D_law_figures G_law_figures D_law_numbers G_law_numbers D_law_web G_law_web D_law_whole G_law_whole D_law_wholes G_law_wholes D_law_words G_law_words D_read_web G_read_web D_web_text G_web_text
  exact G_law
theorem walk {l : PySem.W.OpenLaw} {q : Program} {loose : List Str} {XP : (Str → Option Value) → Heap → Prop} {YP : World → Heap → Prop} {d : DefRec} {K : Params → PySem.W.Frag} (hn : l.most = some 63) (hdf : d.params.defaults = [])
    (hY : ∀ (w : World) (h : Heap), YP w h → (K w.params).In h)
    (F : ∀ (w : World) (mg : Str → Option Value) (fa : Addr) (h : Heap), (K w.params).In h → h.Ns mainGlobals mg → mg d.name = some (.ref fa) →
      ∃ fd : FuncData, (∀ (s : Shared) (u : Value), BindsTo s fd ⟨[u], []⟩ [("script", u)]) ∧ ∀ base : Heap, (K w.params).In base → base.Ns mainGlobals mg → FnOk l.prog w (K w.params) mg base CX0 6 fa fd ["script"] (spLaw (K w.params))) :
    PySem.W.WalkO q loose XP YP l.row.toRowW d [] (fun f vs => PySem.call f vs) :=
  L2.walk_of (n := 63) (k := 6) (x := "script") (CX := fun w => CX0) (sp := fun w => spLaw (K w.params)) hn (by decide) hdf ⟨rfl, by decide, by decide⟩ hY F (fun _ _ a ns hl _ hS => ⟨a, ns, rfl, hS, hl, fun _ => rfl⟩) fun _ _ _ _ _ z => quiet0 _ _ _ _ _ z
end Pk
open PySem PySem.W PyProof.Rows
set_option maxRecDepth 100000 in
set_option maxHeartbeats 0 in
theorem PySem.Challenge.cw_pebbletoll_k57_whole_webs_as_texts_holds : PySem.Challenge.rw_pebbletoll_k57_whole_webs_as_texts.Holds := by
  w_on; o_law; k_head; (case hw => w_witness2)
  k_fill
  refine Pk.walk (l := PySem.Challenge.rw_pebbletoll_k57_whole_webs_as_texts) rfl rfl (fun w h Y => PySem.W.kIn_of Y) ?F
  case F =>
    intro w mg fa h KX G hmg
    refine' Pk.all_mk KX G hmg ?ac_BadWeb ?ac_BadText ?ac_Web ?a_check_counts ?l_check_counts ?c_check_counts ?k_check_counts ?a_is_place ?l_is_place ?c_is_place ?k_is_place ?a_check_ends ?l_check_ends ?c_check_ends ?k_check_ends ?a_other_ends ?l_other_ends ?c_other_ends ?k_other_ends ?a_check_joined ?l_check_joined ?c_check_joined ?k_check_joined ?a_check_tolls ?l_check_tolls ?c_check_tolls ?k_check_tolls ?a_Web___init__ ?i_Web___init__ ?l_Web___init__ ?c_Web___init__ ?k_Web___init__ ?a_law_figures ?l_law_figures ?c_law_figures ?k_law_figures ?a_law_cell ?l_law_cell ?c_law_cell ?k_law_cell ?a_law_mixed ?l_law_mixed ?c_law_mixed ?k_law_mixed ?a_law_numbers ?l_law_numbers ?c_law_numbers ?k_law_numbers ?a_law_toll ?l_law_toll ?c_law_toll ?k_law_toll ?a_law_web ?l_law_web ?c_law_web ?k_law_web ?a_law_whole ?l_law_whole ?c_law_whole ?k_law_whole ?a_law_wholes ?l_law_wholes ?c_law_wholes ?k_law_wholes ?a_law_words ?l_law_words ?c_law_words ?k_law_words ?a_check_end ?l_check_end ?c_check_end ?k_check_end ?a_is_number ?l_is_number ?c_is_number ?k_is_number ?a_read_number ?l_read_number ?c_read_number ?k_read_number ?a_read_words ?l_read_words ?c_read_words ?k_read_words ?a_read_row ?l_read_row ?c_read_row ?k_read_row ?a_read_web ?l_read_web ?c_read_web ?k_read_web ?a_number_text ?l_number_text ?c_number_text ?k_number_text ?a_numbers_text ?l_numbers_text ?c_numbers_text ?k_numbers_text ?a_web_text ?l_web_text ?c_web_text ?k_web_text ?a_law ?l_law ?c_law ?k_law ?pg_Web ?hd_Web ?po_Web ?sa_Web ?mk_Web ?kc_Web ?nm_Web ?nr_Web ?wa_Web ?wn_Web ?wt_Web ?wm_Web ?z_range ?z_len ?z_isinstance ?z_all ?z_int ?z_bool ?z_tuple ?z_list ?z_reversed ?z_sum ?z_str ?v_MOST_PLACES ?v_LEAST_TOLL ?v_MOST_TOLL ?v_FIGURES ?v_MOST_FIGURES ?v_PIECE ?v_PIECE_FIGURES
    (case ac_BadWeb => k_is)
    (case ac_BadText => k_is)
    (case ac_Web => k_is)
    (case a_check_counts => k_is)
    (case l_check_counts => k_is)
    (case c_check_counts => k_is)
    (case k_check_counts => k_is)
    (case a_is_place => k_is)
    (case l_is_place => k_is)
    (case c_is_place => k_is)
    (case k_is_place => k_is)
    (case a_check_ends => k_is)
    (case l_check_ends => k_is)
    (case c_check_ends => k_is)
    (case k_check_ends => k_is)
    (case a_other_ends => k_is)
    (case l_other_ends => k_is)
    (case c_other_ends => k_is)
    (case k_other_ends => k_is)
    (case a_check_joined => k_is)
    (case l_check_joined => k_is)
    (case c_check_joined => k_is)
    (case k_check_joined => k_is)
    (case a_check_tolls => k_is)
    (case l_check_tolls => k_is)
    (case c_check_tolls => k_is)
    (case k_check_tolls => k_is)
    (case a_Web___init__ => k_is)
    (case i_Web___init__ => k_is)
    (case l_Web___init__ => k_is)
    (case c_Web___init__ => k_is)
    (case k_Web___init__ => k_is)
    (case a_law_figures => k_is)
    (case l_law_figures => k_is)
    (case c_law_figures => k_is)
    (case k_law_figures => k_is)
    (case a_law_cell => k_is)
    (case l_law_cell => k_is)
    (case c_law_cell => k_is)
    (case k_law_cell => k_is)
    (case a_law_mixed => k_is)
    (case l_law_mixed => k_is)
    (case c_law_mixed => k_is)
    (case k_law_mixed => k_is)
    (case a_law_numbers => k_is)
    (case l_law_numbers => k_is)
    (case c_law_numbers => k_is)
    (case k_law_numbers => k_is)
    (case a_law_toll => k_is)
    (case l_law_toll => k_is)
    (case c_law_toll => k_is)
    (case k_law_toll => k_is)
    (case a_law_web => k_is)
    (case l_law_web => k_is)
    (case c_law_web => k_is)
    (case k_law_web => k_is)
    (case a_law_whole => k_is)
    (case l_law_whole => k_is)
    (case c_law_whole => k_is)
    (case k_law_whole => k_is)
    (case a_law_wholes => k_is)
    (case l_law_wholes => k_is)
    (case c_law_wholes => k_is)
    (case k_law_wholes => k_is)
    (case a_law_words => k_is)
    (case l_law_words => k_is)
    (case c_law_words => k_is)
    (case k_law_words => k_is)
    (case a_check_end => k_is)
    (case l_check_end => k_is)
    (case c_check_end => k_is)
    (case k_check_end => k_is)
    (case a_is_number => k_is)
    (case l_is_number => k_is)
    (case c_is_number => k_is)
    (case k_is_number => k_is)
    (case a_read_number => k_is)
    (case l_read_number => k_is)
    (case c_read_number => k_is)
    (case k_read_number => k_is)
    (case a_read_words => k_is)
    (case l_read_words => k_is)
    (case c_read_words => k_is)
    (case k_read_words => k_is)
    (case a_read_row => k_is)
    (case l_read_row => k_is)
    (case c_read_row => k_is)
    (case k_read_row => k_is)
    (case a_read_web => k_is)
    (case l_read_web => k_is)
    (case c_read_web => k_is)
    (case k_read_web => k_is)
    (case a_number_text => k_is)
    (case l_number_text => k_is)
    (case c_number_text => k_is)
    (case k_number_text => k_is)
    (case a_numbers_text => k_is)
    (case l_numbers_text => k_is)
    (case c_numbers_text => k_is)
    (case k_numbers_text => k_is)
    (case a_web_text => k_is)
    (case l_web_text => k_is)
    (case c_web_text => k_is)
    (case k_web_text => k_is)
    (case a_law => k_is)
    (case l_law => k_is)
    (case c_law => k_is)
    (case k_law => k_is)
    (case pg_Web => k_is)
    (case hd_Web => k_is)
    (case po_Web => k_is)
    (case sa_Web => k_is)
    (case mk_Web => k_is)
    (case kc_Web => k_is)
    (case nm_Web => k_is)
    (case nr_Web => k_is)
    (case wa_Web => k_is)
    (case wn_Web => k_is)
    (case wt_Web => k_is)
    (case wm_Web => k_is)
    (case z_range => k_is)
    (case z_len => k_is)
    (case z_isinstance => k_is)
    (case z_all => k_is)
    (case z_int => k_is)
    (case z_bool => k_is)
    (case z_tuple => k_is)
    (case z_list => k_is)
    (case z_reversed => k_is)
    (case z_sum => k_is)
    (case z_str => k_is)
    (case v_MOST_PLACES => k_is)
    (case v_LEAST_TOLL => k_is)
    (case v_MOST_TOLL => k_is)
    (case v_FIGURES => k_is)
    (case v_MOST_FIGURES => k_is)
    (case v_PIECE => k_is)
    (case v_PIECE_FIGURES => k_is)
#print axioms PySem.Challenge.cw_pebbletoll_k57_whole_webs_as_texts_holds
