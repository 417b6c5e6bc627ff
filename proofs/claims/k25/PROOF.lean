import PyProof.Rows.All
import Wide.All
import OpenK.AllK
import Wide.FinOn
import Lean
import PyProof.EqAt
import PyProof.EqKinds
import PyProof.TupleCall
import PyProof.P3Eq
import PyProof.NeData
import PyProof.FitsBits
import PyProof.ZipIter
import PyProof.TupleIter
import KE.KRevIter
import PyProof.TupleOfGen
import PyProof.ListRange
import KE.KIsAll
import PyProof.ExcArgsOwn
import OpenK.KDescr
import PyProof.StationsW
import PyProof.ExcBaseAll.ValueError
import OpenK.KOwn
import PyProof.RulesAs
import PyProof.RulesDel
import PyProof.Rows.SortWalk
import PyProof.CompUse
import KE.KDictSum
import PyProof.WalkInts
import KE.KSortTup
import PyProof.Rows.TupDisplay
import KE.KIntText
import PyProof.JoinWalk
import PyProof.ExcInit
import PyProof.ExcClass2
import KE.KRevSl
import KE.KSetAt
import PySem.Challenge.RW_pebbletoll_k25_whole_steps_that_meet
set_option Elab.async false
set_option linter.all false
set_option maxRecDepth 100000
def fk:=@Array.getElem?_eq_getElem
def cZ:=@Array.getElem?_eq_some_iff
def iH:=@Array.getElem?_setIfInBounds_ne
def jg:=@Array.getElem?_toList
def dG:=@Array.length_toList
def bn:=@Bool.and_eq_true
def oJ:=@Bool.and_eq_true_iff
def eR:=@Bool.eq_iff_iff
def kj:=@Bool.false_and
def dU:=@Bool.false_eq_true
def aV:=@Bool.false_ne_true
def fS:=@Bool.not_eq_true'
def ku:=@Bool.true_and
def jX:=@PySem.Calls.Name_function_global
def jR:=@PySem.Calls.spliced_cons
def kG:=@PySem.Calls.spliced_nil
def iW:=@PySem.F.slot_set_init
def aJ:=@PySem.Heap.get?_push_of_some
def bg:=@PySem.Heap.get?_push_size
def cT:=@PySem.Heap.get?_update_other
def eI:=@PySem.Heap.get?_update_self
def aG:=@PySem.Heap.lt_size
def jA:=@PySem.Heap.size_push
def l5:=@Int.add_mul
def ij:=@Int.add_mul_ediv_right
def ml:=@Int.ediv_eq_zero_of_lt
def mq:=@Int.ediv_nonneg
def bO:=@Int.emod_lt_of_pos
def bE:=@Int.emod_nonneg
def jN:=@Int.fdiv_eq_ediv_of_nonneg
def bh:=@Int.le_refl
def lw:=@Int.mul_comm
def d6:=@Int.mul_le_mul_of_nonneg_left
def fL:=@Int.mul_le_mul_of_nonneg_right
def iY:=@Int.mul_le_mul_of_nonpos_left
def g4:=@Int.mul_nonneg
def eP:=@Int.mul_nonpos_of_nonpos_of_nonneg
def kX:=@Int.ne_of_gt
def qw:=@Int.neg_mul
def dR:=@Int.toNat_natCast
def fm:=@Int.toNat_of_nonneg
def gD:=@Int.zero_add
def pJ:=@Int.zero_mul
def nM:=@List.Pairwise.filter
def mL:=@List.Perm.append_left
def dz:=@List.all_eq_true
def oz:=@List.any_cons
def bX:=@List.append_assoc
def bC:=@List.append_nil
def iQ:=@List.concat_eq_append
def lD:=@List.cons_append
def kD:=@List.drop_eq_getElem_cons
def lH:=@List.drop_length
def mY:=@List.drop_zero
def iI:=@List.eq_nil_iff_forall_not_mem
def iK:=@List.eq_nil_or_concat
def kL:=@List.ext_getElem?
def bZ:=@List.filterMap_cons
def b9:=@List.filter_append
def cN:=@List.filter_cons_of_neg
def cL:=@List.filter_cons_of_pos
def fA:=@List.find?_cons
def iJ:=@List.findSome?_append
def jt:=@List.findSome?_cons
def oX:=@List.flatMap_append
def dh:=@List.flatMap_cons
def eN:=@List.flatten_cons
def gB:=@List.foldl_cons
def dP:=@List.getElem?_append_left
def dD:=@List.getElem?_append_right
def lR:=@List.getElem?_cons_succ
def lV:=@List.getElem?_cons_zero
def ax:=@List.getElem?_eq_getElem
def cG:=@List.getElem?_eq_none
def aq:=@List.getElem?_eq_some_iff
def aP:=@List.getElem?_map
def cg:=@List.getElem?_of_mem
def jC:=@List.getElem?_range
def g7:=@List.getElem?_replicate
def da:=@List.getElem?_reverse
def gh:=@List.getElem?_set_ne
def mh:=@List.getElem?_set_self
def kY:=@List.getElem?_take_of_lt
def mH:=@List.getElem_cons_drop
def iE:=@List.getElem_map
def eZ:=@List.getElem_mem
def gL:=@List.getElem_of_mem
def aH:=@List.length_append
def aL:=@List.length_cons
def cH:=@List.length_filter_le
def ai:=@List.length_map
def fB:=@List.length_nil
def fT:=@List.length_range
def c7:=@List.length_replicate
def be:=@List.length_reverse
def bN:=@List.length_set
def bu:=@List.length_take
def bS:=@List.lookup_cons
def aA:=@List.map_append
def fo:=@List.map_congr_left
def aK:=@List.map_cons
def oG:=@List.map_map
def ff:=@List.map_nil
def d8:=@List.map_set
def aQ:=@List.mem_append
def a9:=@List.mem_append_left
def aN:=@List.mem_append_right
def az:=@List.mem_cons
def ak:=@List.mem_cons_of_mem
def aw:=@List.mem_cons_self
def mU:=@List.mem_erase_of_ne
def bG:=@List.mem_filter
def gM:=@List.mem_filterMap
def hJ:=@List.mem_flatMap
def aY:=@List.mem_map
def a8:=@List.mem_of_getElem?
def mM:=@List.mem_of_mem_drop
def bD:=@List.mem_range
def di:=@List.mem_reverse
def aB:=@List.mem_singleton
def f9:=@List.nil_append
def b7:=@List.nodup_append
def aE:=@List.nodup_cons
def iX:=@List.nodup_nil
def kI:=@List.nodup_range
def kE:=@List.not_mem_nil
def lP:=@List.of_mem_zip
def gr:=@List.pairwise_iff_getElem
def jJ:=@List.perm_append_singleton
def iG:=@List.range_succ
def cj:=@List.replicate_succ
def mN:=@List.replicate_succ'
def jb:=@List.reverse_append
def j9:=@List.reverse_cons
def mQ:=@List.reverse_reverse
def jH:=@List.set_cons_succ
def aD:=@List.size_toArray
def bc:=@List.sum_cons
def fQ:=@List.take_append_drop
def bx:=@List.take_length
def lU:=@List.take_of_length_le
def b4:=@List.take_succ
def dJ:=@List.take_zero
def kb:=@Nat.le_of_lt
def aI:=@Nat.le_refl
def iP:=@Nat.le_succ
def bq:=@Nat.le_trans
def dy:=@Nat.lt_irrefl
def ju:=@Nat.lt_of_le_of_lt
def aR:=@Nat.lt_of_lt_of_le
def jQ:=@Nat.lt_succ_of_lt
def eJ:=@Nat.lt_succ_self
def oC:=@Nat.lt_trans
def lX:=@Nat.mod_lt
def kg:=@Nat.ne_of_gt
def aO:=@Nat.ne_of_lt
def iC:=@Nat.not_lt_zero
def ke:=@Nat.sub_self
def kt:=@Nat.succ.inj
def kc:=@Nat.zero_add
def bo:=@Nat.zero_le
def ft:=@PySem.Obj.data_mapFields
def ii:=@PySem.Obj.isFreed_of_fields
def dN:=@Option.isSome_iff_exists
def fI:=@Option.isSome_map
def cM:=@Option.map_eq_some_iff
def iw:=@Option.map_some
def bi:=@Option.some.inj
def iq:=@PyProof.Rows.callWith_builtin1
def dv:=@PyProof.Rows.callWith_type1
def kC:=@PySem.F.slot_list_insert
def lS:=@PySem.W.cellsFrom_some
def cf:=@PySem.W.kia_one
def au:=@PySem.W.mg_of
def cK:=@PySem.mem_of_lookup
def g6:=@beq_iff_eq
def lI:=@PySem.codeAny_builtin
def km:=@PySem.codeAny_mono
def bH:=@decide_eq_false
def k7:=@decide_eq_false_iff_not
def aW:=@decide_eq_true
def aU:=@decide_eq_true_eq
def aa:=@if_neg
def ag:=@if_pos
def bP:=@of_decide_eq_true
def d7:=@PySem.wpAny_Call_Name_kw
def aj:=@PySem.wpAny_bind
def jm:=@PySem.wpAny_call
def iB:=@PySem.wpAny_execs_nil
def lm:=@PySem.wpAny_field
def cV:=@PySem.wpAny_holding
def kK:=@PySem.wpAny_isInstance
def iz:=@PySem.wpAny_ite_split
def cJ:=@PySem.wpAny_mono
def gW:=@PySem.wpAny_newObj_type
def d5:=@PySem.wpAny_passesOwn
def ap:=@PySem.wpAny_pure
def jV:=@PySem.wpAny_pyIter_list
def mj:=@PySem.wpAny_setField
def dF:=@PySem.wpAny_setState_of
def jv:=@PySem.wpAny_standAt
def b8:=@PySem.wpAny_truthy_bool
namespace Hd
open PySem
def top (i:Nat):Stmt:=PySem.Challenge.pw_pebbletoll_k25_whole_steps_that_meet.main.body.getD i (.Pass ⟨0,0,0,0⟩)
def inC (s:Stmt) (j:Nat):Stmt:=match s with
 | .ClassDef _ _ _ b _ _ _ _ _ _ _=>b.getD j (.Pass ⟨0,0,0,0⟩)
 | _=>.Pass ⟨0,0,0,0⟩
def kA (s:Stmt):Arguments:=match s with
 | .FunctionDef _ a _ _ _ _ _ _ _ _=>a
 | _=>{ posonlyargs:=[],args:=[],vararg:=none,kwonlyargs:=[],kw_defaults:=[],kwarg:=none,defaults:=[] }
def kB (s:Stmt):List Stmt:=match s with
 | .FunctionDef _ _ b _ _ _ _ _ _ _=>b
 | _=>[]
def kS (s:Stmt):Scope:=match s with
 | .FunctionDef _ _ _ _ _ _ sc _ _ _=>sc
 | _=>{ kind:=.function,names:=[],isGenerator:=false,isCoroutine:=false }
open PySem.W PySem.Calls PyProof.Rows
def en (P:Params) (s:Str) (t:Tok) (v:Value):DictEntry:=.mk (PyData.keyHash P s) (.str s t) v
def cO (a b:Str) (t1 t2 t3:Tok) (i1 i2 i3 i4 i5:Int) (r1:Value) (b1:Bool) (i6:Int) (r2 v1 v2 v3 r3:Value) (i7 i8:Int) (t4:Tok):Obj:=.mk (.type "code") none (.fields #[.str a t1,.str b t2,.str "/claim/cut.py" t3,.int i1 0,.int i2 0,.int i3 0,.int i4 0,.int i5 0,r1,.bool b1,.int i6 0,r2,v1,v2,v3,r3,.int i7 0,.int i8 0,.str "/claim/cut.py" t4]) #[]
def fR (a b:Str) (s:Stmt):Obj:=.mk .none none (.func (.mk a b (kA s) (.stmts (kB s)) (kS s) 0 [] .none .none .none .none none .none .none 0)) #[]
def fO (a b:Str) (s:Stmt) (pm cd:Value):Obj:=.mk (.type "function") none (.func (PySem.W.fnOf a b (kA s) (kB s) (kS s) .none .none .none pm none cd .none)) #[]
def tO (xs:Array Value):Obj:=.mk (.type "tuple") none (.seq xs 0) #[]
def x0:Obj:=(tO #[])
def x1:Obj:=(.mk .none none (.fields #[]) #[])
def x2:Obj:=(cO "<module>" "<module>" 182 183 184 1 0 0 0 0 (.ref 11) false 181 (.ref 12) .none .none .none .none 185 1 186)
def x3:Obj:=(.mk (.type "frame") none .plain #[(some (.ref 13)),(some (.ref 3)),(some (.ref 3)),none,(some (.str "__main__" 164)),none,(some (.ref 0))])
noncomputable def ha (P:Params):Heap:=.mk (.mk (boot_o_0 P::boot_o_1 P::boot_o_2 P::boot_o_3 P::boot_o_4 P::boot_o_5 P::boot_o_6 P::boot_o_7 P::boot_o_8 P::boot_o_9 P::boot_o_10 P::x0::x1::x2::x3::[])) (.mk [] [] [] 0 [] [] false #[] [] 0 false false false 0 [2000,10,10] false 0 true [] [] 0 false)
noncomputable def hb (P:Params):Heap:=.mk (.mk (boot_o_0 P::boot_o_1 P::boot_o_2 P::boot_o_3 P::boot_o_4 P::boot_o_5 P::boot_o_6 P::boot_o_7 P::boot_o_8 P::boot_o_9 P::boot_o_10 P::x0::x1::x2::x3::[])) (.mk [] [] [] 0 [] [] false #[] [] 0 false false false 0 [2000,10,10] false 0 true [] [] 0 false)
abbrev st0:List Stmt:=[top 0,top 1,top 2,top 3,top 4,top 5,top 6,top 7,top 8,top 9,top 10,top 11,top 12,top 13,top 14,top 15,top 16,top 17,top 18,top 19,top 20,top 21,top 22,top 23,top 24,top 25,top 26,top 27,top 28]
abbrev st1:List Stmt:=[top 29,top 30,top 31,top 32,top 33,top 34,top 35,top 36,top 37,top 38,top 39,top 40,top 41,top 42,top 43,top 44,top 45,top 46,top 47,top 48,top 49,top 50,top 51,top 52,top 53,top 54,top 55,top 56]
abbrev bb:List Stmt:=st0++(st1++([]))
def env:Env:={ scope:=PySem.Challenge.pw_pebbletoll_k25_whole_steps_that_meet.main.scope,locals:=mainNs,globals:=mainNs,cells:=[],code:=(.ref 13),frame:=some 14 }
abbrev cE:Code:=.body bb env
theorem WS (w:World) (os:OsState):topGo treeTable PySem.Challenge.pw_pebbletoll_k25_whole_steps_that_meet w 11 (some (.ref 6)) 12 (Shared.mk (boot_heap w.params) (.mk []) boot_drawn boot_toks os) (topStub PySem.Challenge.pw_pebbletoll_k25_whole_steps_that_meet)=some ((Shared.mk (ha w.params) (.mk []) (.mk 0 0 0 0) 187 os),Thread.mk (denote treeTable cE) cE (.mk 0 0 0 0) [topFrame (.mk 0 0 0 0)]):=by kernel_rfl
theorem WH (w:World) (os:OsState):segRun treeTable PySem.Challenge.pw_pebbletoll_k25_whole_steps_that_meet w 11 (some (.ref 6)) 1 1 (Shared.mk (ha w.params) (.mk []) (.mk 0 0 0 0) 187 os) (blockOf bb env cE (.mk 0 0 0 0) [topFrame (.mk 0 0 0 0)])=some (.next,(Shared.mk (hb w.params) (.mk []) (.mk 0 0 0 0) 187 os),cE,(.mk 0 0 0 0)):=by kernel_rfl
def x4 (P:Params):Obj:=(.mk (.type "dict") none (.dict #[(en P "__name__" 165 (.str "pebbletoll.ways" 422)),(en P "__doc__" 166 .none),(en P "__package__" 167 .none),(en P "__loader__" 168 (.builtin "__main__.__loader__#opaque")),(en P "__spec__" 169 .none),(en P "__annotations__" 170 (.ref 6)),(en P "__builtins__" 171 (.ref 4)),(en P "__file__" 173 (.str "/claim/cut.py" 172)),(en P "__cached__" 174 .none),(en P "TollError" 206 (.ref 24)),(en P "BadWeb" 222 (.ref 37)),(en P "NoPlace" 238 (.ref 49)),(en P "NoRoad" 254 (.ref 61)),(en P "BadLaying" 270 (.ref 73)),(en P "BadWish" 286 (.ref 85)),(en P "MOST_PLACES" 290 (.int 24 289)),(en P "LEAST_TOLL" 292 (.int 2 291)),(en P "MOST_TOLL" 294 (.int 1000000 293)),(en P "Web" 322 (.ref 102)),(en P "toll" 335 (.ref 113)),(en P "neighbours" 343 (.ref 120)),(en P "check_place" 351 (.ref 127)),(en P "is_place" 359 (.ref 134)),(en P "check_counts" 367 (.ref 141)),(en P "check_ends" 375 (.ref 148)),(en P "check_tolls" 383 (.ref 155)),(en P "check_joined" 395 (.ref 162)),(en P "other_ends" 405 (.ref 169)),(en P "laying_of" 415 (.ref 176)),(en P "is_filled" 421 (.ref 181)),(en P "ahead" 436 (.ref 188)),(en P "down" 449 (.ref 195)),(en P "kids" 455 (.ref 200)),(en P "inward" 461 (.ref 205))] 34) #[])
def x5:Obj:=(.mk .none none (.fields #[(.int 2 0),(.int 0 0),(.ref 20),(.int 4 0),(.int 0 0),(.ref 33),(.int 6 0),(.int 0 0),(.ref 45),(.int 8 0),(.int 0 0),(.ref 57),(.int 10 0),(.int 0 0),(.ref 69),(.int 12 0),(.int 0 0),(.ref 81),(.int 18 0),(.int 0 0),(.ref 93),(.int 29 0),(.int 0 0),(.ref 112),(.int 38 0),(.int 0 0),(.ref 119),(.int 41 0),(.int 0 0),(.ref 126),(.int 44 0),(.int 0 0),(.ref 133),(.int 46 0),(.int 0 0),(.ref 140),(.int 51 0),(.int 0 0),(.ref 147),(.int 56 0),(.int 0 0),(.ref 154),(.int 60 0),(.int 0 0),(.ref 161),(.int 71 0),(.int 0 0),(.ref 168),(.int 80 0),(.int 0 0),(.ref 175),(.int 84 0),(.int 0 0),(.ref 180),(.int 87 0),(.int 0 0),(.ref 187),(.int 98 0),(.int 0 0),(.ref 194),(.int 108 0),(.int 0 0),(.ref 199),(.int 110 0),(.int 0 0),(.ref 204)]) #[])
def x6:Obj:=(tO #[(.type "ValueError")])
def x7:Obj:=(.mk (.type "builtin_function_or_method") none (.fields #[(.builtin "type.__prepare__"),(.type "type")]) #[])
def x8 (P:Params):Obj:=(.mk (.type "dict") none (.dict #[(en P "__module__" 196 (.str "pebbletoll.errors" 187)),(en P "__qualname__" 198 (.str "TollError" 197)),(en P "__firstlineno__" 200 (.int 2 199)),(en P "__static_attributes__" 201 (.ref 22))] 4) #[])
def x9:Obj:=(cO "TollError" "TollError" 191 192 193 2 0 0 0 0 (.ref 18) false 181 (.ref 19) .none .none .none .none 194 2 195)
def x10:Obj:=(.mk (.type "frame") none .plain #[(some (.ref 20)),(some (.ref 3)),(some (.ref 17)),none,(some (.str "pebbletoll.errors" 187)),none,(some (.ref 0))])
def x11 (P:Params):Obj:=(.mk (.type "dict") none (.dict #[(en P "__module__" 196 (.str "pebbletoll.errors" 187)),(en P "__firstlineno__" 200 (.int 2 199)),(en P "__static_attributes__" 201 (.ref 22)),(en P "__weakref__" 203 (.ref 25)),(en P "__doc__" 204 .none)] 3) #[])
def x12:Obj:=(.mk (.type "type") none (.cls (.mk "TollError" [(.type "ValueError")] [(.ref 24),(.type "ValueError"),(.type "Exception"),(.type "BaseException"),(.type "object")] 23 "TollError" true [] [(.ref 37),(.ref 49),(.ref 61),(.ref 73),(.ref 85)] false none false)) #[(some (.ref 15)),none,(some (.str "TollError" 189)),(some (.str "TollError" 197)),(some (.builtin "ValueError.__new__")),(some (.bool true))])
def x13:Obj:=(.mk (.type "getset_descriptor") none (.fields #[(.str "__weakref__" 202),(.ref 24),(.builtin "ExceptionGroup.__weakref__"),.none]) #[])
def x14:Obj:=(.mk (.type "super") none (.fields #[(.ref 24),(.ref 24),(.ref 24)]) #[])
def x15:Obj:=(.mk (.type "builtin_function_or_method") none (.fields #[(.builtin "object.__init_subclass__"),(.ref 24)]) #[])
def x16:Obj:=(tO #[(.ref 24)])
def x17 (P:Params):Obj:=(.mk (.type "dict") none (.dict #[(en P "__module__" 214 (.str "pebbletoll.errors" 187)),(en P "__qualname__" 216 (.str "BadWeb" 215)),(en P "__firstlineno__" 218 (.int 4 217)),(en P "__static_attributes__" 219 (.ref 35))] 4) #[])
def x18:Obj:=(cO "BadWeb" "BadWeb" 209 210 211 4 0 0 0 0 (.ref 31) false 181 (.ref 32) .none .none .none .none 212 4 213)
def x19:Obj:=(.mk (.type "frame") none .plain #[(some (.ref 33)),(some (.ref 3)),(some (.ref 30)),none,(some (.str "pebbletoll.errors" 187)),none,(some (.ref 0))])
def x20 (P:Params):Obj:=(.mk (.type "dict") none (.dict #[(en P "__module__" 214 (.str "pebbletoll.errors" 187)),(en P "__firstlineno__" 218 (.int 4 217)),(en P "__static_attributes__" 219 (.ref 35)),(en P "__doc__" 220 .none)] 2) #[])
def x21:Obj:=(.mk (.type "type") none (.cls (.mk "BadWeb" [(.ref 24)] [(.ref 37),(.ref 24),(.type "ValueError"),(.type "Exception"),(.type "BaseException"),(.type "object")] 36 "BadWeb" true [] [] false none false)) #[(some (.ref 28)),none,(some (.str "BadWeb" 207)),(some (.str "BadWeb" 215)),(some (.builtin "ValueError.__new__")),(some (.bool true))])
def x22:Obj:=(.mk (.type "super") none (.fields #[(.ref 37),(.ref 37),(.ref 37)]) #[])
def x23:Obj:=(.mk (.type "builtin_function_or_method") none (.fields #[(.builtin "object.__init_subclass__"),(.ref 37)]) #[])
def x24 (P:Params):Obj:=(.mk (.type "dict") none (.dict #[(en P "__module__" 230 (.str "pebbletoll.errors" 187)),(en P "__qualname__" 232 (.str "NoPlace" 231)),(en P "__firstlineno__" 234 (.int 6 233)),(en P "__static_attributes__" 235 (.ref 47))] 4) #[])
def x25:Obj:=(cO "NoPlace" "NoPlace" 225 226 227 6 0 0 0 0 (.ref 43) false 181 (.ref 44) .none .none .none .none 228 6 229)
def x26:Obj:=(.mk (.type "frame") none .plain #[(some (.ref 45)),(some (.ref 3)),(some (.ref 42)),none,(some (.str "pebbletoll.errors" 187)),none,(some (.ref 0))])
def x27 (P:Params):Obj:=(.mk (.type "dict") none (.dict #[(en P "__module__" 230 (.str "pebbletoll.errors" 187)),(en P "__firstlineno__" 234 (.int 6 233)),(en P "__static_attributes__" 235 (.ref 47)),(en P "__doc__" 236 .none)] 2) #[])
def x28:Obj:=(.mk (.type "type") none (.cls (.mk "NoPlace" [(.ref 24)] [(.ref 49),(.ref 24),(.type "ValueError"),(.type "Exception"),(.type "BaseException"),(.type "object")] 48 "NoPlace" true [] [] false none false)) #[(some (.ref 40)),none,(some (.str "NoPlace" 223)),(some (.str "NoPlace" 231)),(some (.builtin "ValueError.__new__")),(some (.bool true))])
def x29:Obj:=(.mk (.type "super") none (.fields #[(.ref 49),(.ref 49),(.ref 49)]) #[])
def x30:Obj:=(.mk (.type "builtin_function_or_method") none (.fields #[(.builtin "object.__init_subclass__"),(.ref 49)]) #[])
def x31 (P:Params):Obj:=(.mk (.type "dict") none (.dict #[(en P "__module__" 246 (.str "pebbletoll.errors" 187)),(en P "__qualname__" 248 (.str "NoRoad" 247)),(en P "__firstlineno__" 250 (.int 8 249)),(en P "__static_attributes__" 251 (.ref 59))] 4) #[])
def x32:Obj:=(cO "NoRoad" "NoRoad" 241 242 243 8 0 0 0 0 (.ref 55) false 181 (.ref 56) .none .none .none .none 244 8 245)
def x33:Obj:=(.mk (.type "frame") none .plain #[(some (.ref 57)),(some (.ref 3)),(some (.ref 54)),none,(some (.str "pebbletoll.errors" 187)),none,(some (.ref 0))])
def x34 (P:Params):Obj:=(.mk (.type "dict") none (.dict #[(en P "__module__" 246 (.str "pebbletoll.errors" 187)),(en P "__firstlineno__" 250 (.int 8 249)),(en P "__static_attributes__" 251 (.ref 59)),(en P "__doc__" 252 .none)] 2) #[])
def x35:Obj:=(.mk (.type "type") none (.cls (.mk "NoRoad" [(.ref 24)] [(.ref 61),(.ref 24),(.type "ValueError"),(.type "Exception"),(.type "BaseException"),(.type "object")] 60 "NoRoad" true [] [] false none false)) #[(some (.ref 52)),none,(some (.str "NoRoad" 239)),(some (.str "NoRoad" 247)),(some (.builtin "ValueError.__new__")),(some (.bool true))])
def x36:Obj:=(.mk (.type "super") none (.fields #[(.ref 61),(.ref 61),(.ref 61)]) #[])
def x37:Obj:=(.mk (.type "builtin_function_or_method") none (.fields #[(.builtin "object.__init_subclass__"),(.ref 61)]) #[])
def x38 (P:Params):Obj:=(.mk (.type "dict") none (.dict #[(en P "__module__" 262 (.str "pebbletoll.errors" 187)),(en P "__qualname__" 264 (.str "BadLaying" 263)),(en P "__firstlineno__" 266 (.int 10 265)),(en P "__static_attributes__" 267 (.ref 71))] 4) #[])
def x39:Obj:=(cO "BadLaying" "BadLaying" 257 258 259 10 0 0 0 0 (.ref 67) false 181 (.ref 68) .none .none .none .none 260 10 261)
def x40:Obj:=(.mk (.type "frame") none .plain #[(some (.ref 69)),(some (.ref 3)),(some (.ref 66)),none,(some (.str "pebbletoll.errors" 187)),none,(some (.ref 0))])
def x41 (P:Params):Obj:=(.mk (.type "dict") none (.dict #[(en P "__module__" 262 (.str "pebbletoll.errors" 187)),(en P "__firstlineno__" 266 (.int 10 265)),(en P "__static_attributes__" 267 (.ref 71)),(en P "__doc__" 268 .none)] 2) #[])
def x42:Obj:=(.mk (.type "type") none (.cls (.mk "BadLaying" [(.ref 24)] [(.ref 73),(.ref 24),(.type "ValueError"),(.type "Exception"),(.type "BaseException"),(.type "object")] 72 "BadLaying" true [] [] false none false)) #[(some (.ref 64)),none,(some (.str "BadLaying" 255)),(some (.str "BadLaying" 263)),(some (.builtin "ValueError.__new__")),(some (.bool true))])
def x43:Obj:=(.mk (.type "super") none (.fields #[(.ref 73),(.ref 73),(.ref 73)]) #[])
def x44:Obj:=(.mk (.type "builtin_function_or_method") none (.fields #[(.builtin "object.__init_subclass__"),(.ref 73)]) #[])
def x45 (P:Params):Obj:=(.mk (.type "dict") none (.dict #[(en P "__module__" 278 (.str "pebbletoll.errors" 187)),(en P "__qualname__" 280 (.str "BadWish" 279)),(en P "__firstlineno__" 282 (.int 12 281)),(en P "__static_attributes__" 283 (.ref 83))] 4) #[])
def x46:Obj:=(cO "BadWish" "BadWish" 273 274 275 12 0 0 0 0 (.ref 79) false 181 (.ref 80) .none .none .none .none 276 12 277)
def x47:Obj:=(.mk (.type "frame") none .plain #[(some (.ref 81)),(some (.ref 3)),(some (.ref 78)),none,(some (.str "pebbletoll.errors" 187)),none,(some (.ref 0))])
def x48 (P:Params):Obj:=(.mk (.type "dict") none (.dict #[(en P "__module__" 278 (.str "pebbletoll.errors" 187)),(en P "__firstlineno__" 282 (.int 12 281)),(en P "__static_attributes__" 283 (.ref 83)),(en P "__doc__" 284 .none)] 2) #[])
def x49:Obj:=(.mk (.type "type") none (.cls (.mk "BadWish" [(.ref 24)] [(.ref 85),(.ref 24),(.type "ValueError"),(.type "Exception"),(.type "BaseException"),(.type "object")] 84 "BadWish" true [] [] false none false)) #[(some (.ref 76)),none,(some (.str "BadWish" 271)),(some (.str "BadWish" 279)),(some (.builtin "ValueError.__new__")),(some (.bool true))])
def x50:Obj:=(.mk (.type "super") none (.fields #[(.ref 85),(.ref 85),(.ref 85)]) #[])
def x51:Obj:=(.mk (.type "builtin_function_or_method") none (.fields #[(.builtin "object.__init_subclass__"),(.ref 85)]) #[])
def x52 (P:Params):Obj:=(.mk (.type "dict") none (.dict #[(en P "__module__" 302 (.str "pebbletoll.webs" 287)),(en P "__qualname__" 304 (.str "Web" 303)),(en P "__firstlineno__" 306 (.int 18 305)),(en P "__init__" 312 (.ref 99)),(en P "__static_attributes__" 315 (.ref 100))] 5) #[])
def x53:Obj:=(.mk .none none (.fields #[(.int 20 0),(.int 4 0),(.ref 98)]) #[])
def x54:Obj:=(cO "Web" "Web" 297 298 299 18 0 0 0 0 (.ref 91) false 181 (.ref 92) .none .none .none .none 300 18 301)
def x55:Obj:=(.mk (.type "frame") none .plain #[(some (.ref 93)),(some (.ref 3)),(some (.ref 90)),none,(some (.str "pebbletoll.webs" 287)),none,(some (.ref 0))])
def x56:Obj:=(fR "__init__" "Web.__init__" (inC (top 11) 0))
def x57:Obj:=(cO "__init__" "Web.__init__" 307 308 309 20 3 0 0 3 (.ref 95) true 181 (.ref 96) .none .none .none (.ref 97) 310 20 311)
def x58:Obj:=(fO "__init__" "Web.__init__" (inC (top 11) 0) (.str "pebbletoll.webs" 287) (.ref 98))
def x59:Obj:=(tO #[(.str "many" 313),(.str "roads" 314)])
def x60 (P:Params):Obj:=(.mk (.type "dict") none (.dict #[(en P "__module__" 302 (.str "pebbletoll.webs" 287)),(en P "__firstlineno__" 306 (.int 18 305)),(en P "__init__" 312 (.ref 99)),(en P "__static_attributes__" 315 (.ref 100)),(en P "__dict__" 317 (.ref 103)),(en P "__weakref__" 319 (.ref 104)),(en P "__doc__" 320 .none)] 4) #[])
def x61:Obj:=(.mk (.type "type") none (.cls (.mk "Web" [(.type "object")] [(.ref 102),(.type "object")] 101 "Web" true [] [] false none false)) #[none,none,(some (.str "Web" 295)),(some (.str "Web" 303)),(some (.builtin "object.__new__")),(some (.bool true))])
def x62:Obj:=(.mk (.type "getset_descriptor") none (.fields #[(.str "__dict__" 316),(.ref 102),(.builtin "function.__dict__"),(.builtin "function.__dict__#set")]) #[])
def x63:Obj:=(.mk (.type "getset_descriptor") none (.fields #[(.str "__weakref__" 318),(.ref 102),(.builtin "ExceptionGroup.__weakref__"),.none]) #[])
def x64:Obj:=(.mk (.type "super") none (.fields #[(.ref 102),(.ref 102),(.ref 102)]) #[])
def x65:Obj:=(.mk (.type "builtin_function_or_method") none (.fields #[(.builtin "object.__init_subclass__"),(.ref 102)]) #[])
def x66:Obj:=(tO #[(.str "web" 326),(.str "a" 327),(.str "b" 328),(.str "one" 329),(.str "other" 330),(.str "there" 331),(.str "back" 332)])
def x67:Obj:=(fR "toll" "toll" (top 12))
def x68:Obj:=(cO "toll" "toll" 323 324 325 29 3 0 0 3 (.ref 107) true 181 (.ref 108) .none (.ref 109) (.ref 110) (.ref 111) 333 29 334)
def x69:Obj:=(fO "toll" "toll" (top 12) (.str "pebbletoll.webs" 287) (.ref 112))
def x70:Obj:=(tO #[(.str "web" 339),(.str "a" 340)])
def x71:Obj:=(fR "neighbours" "neighbours" (top 13))
def x72:Obj:=(cO "neighbours" "neighbours" 336 337 338 38 2 0 0 3 (.ref 114) true 181 (.ref 115) .none (.ref 116) (.ref 117) (.ref 118) 341 38 342)
def x73:Obj:=(fO "neighbours" "neighbours" (top 13) (.str "pebbletoll.webs" 287) (.ref 119))
def x74:Obj:=(tO #[(.str "web" 347),(.str "number" 348)])
def x75:Obj:=(fR "check_place" "check_place" (top 14))
def x76:Obj:=(cO "check_place" "check_place" 344 345 346 41 2 0 0 3 (.ref 121) true 181 (.ref 122) .none (.ref 123) (.ref 124) (.ref 125) 349 41 350)
def x77:Obj:=(fO "check_place" "check_place" (top 14) (.str "pebbletoll.webs" 287) (.ref 126))
def x78:Obj:=(tO #[(.str "many" 355),(.str "number" 356)])
def x79:Obj:=(fR "is_place" "is_place" (top 15))
def x80:Obj:=(cO "is_place" "is_place" 352 353 354 44 2 0 0 3 (.ref 128) true 181 (.ref 129) .none (.ref 130) (.ref 131) (.ref 132) 357 44 358)
def x81:Obj:=(fO "is_place" "is_place" (top 15) (.str "pebbletoll.webs" 287) (.ref 133))
def x82:Obj:=(tO #[(.str "many" 363),(.str "roads" 364)])
def x83:Obj:=(fR "check_counts" "check_counts" (top 16))
def x84:Obj:=(cO "check_counts" "check_counts" 360 361 362 46 2 0 0 3 (.ref 135) true 181 (.ref 136) .none (.ref 137) (.ref 138) (.ref 139) 365 46 366)
def x85:Obj:=(fO "check_counts" "check_counts" (top 16) (.str "pebbletoll.webs" 287) (.ref 140))
def x86:Obj:=(tO #[(.str "many" 371),(.str "road" 372)])
def x87:Obj:=(fR "check_ends" "check_ends" (top 17))
def x88:Obj:=(cO "check_ends" "check_ends" 368 369 370 51 2 0 0 3 (.ref 142) true 181 (.ref 143) .none (.ref 144) (.ref 145) (.ref 146) 373 51 374)
def x89:Obj:=(fO "check_ends" "check_ends" (top 17) (.str "pebbletoll.webs" 287) (.ref 147))
def x90:Obj:=(tO #[(.str "road" 379),(.str "number" 380)])
def x91:Obj:=(fR "check_tolls" "check_tolls" (top 18))
def x92:Obj:=(cO "check_tolls" "check_tolls" 376 377 378 56 1 0 0 3 (.ref 149) true 181 (.ref 150) .none (.ref 151) (.ref 152) (.ref 153) 381 56 382)
def x93:Obj:=(fO "check_tolls" "check_tolls" (top 18) (.str "pebbletoll.webs" 287) (.ref 154))
def x94:Obj:=(tO #[(.str "many" 387),(.str "roads" 388),(.str "reached" 389),(.str "waiting" 390),(.str "place" 391),(.str "end" 392)])
def x95:Obj:=(fR "check_joined" "check_joined" (top 19))
def x96:Obj:=(cO "check_joined" "check_joined" 384 385 386 60 2 0 0 3 (.ref 156) true 181 (.ref 157) .none (.ref 158) (.ref 159) (.ref 160) 393 60 394)
def x97:Obj:=(fO "check_joined" "check_joined" (top 19) (.str "pebbletoll.webs" 287) (.ref 161))
def x98:Obj:=(tO #[(.str "roads" 399),(.str "place" 400),(.str "ends" 401),(.str "road" 402)])
def x99:Obj:=(fR "other_ends" "other_ends" (top 20))
def Oz:Obj:=(cO "other_ends" "other_ends" 396 397 398 71 2 0 0 3 (.ref 163) true 181 (.ref 164) .none (.ref 165) (.ref 166) (.ref 167) 403 71 404)
def NP:Obj:=(fO "other_ends" "other_ends" (top 20) (.str "pebbletoll.webs" 287) (.ref 168))
def Nu:Obj:=(tO #[(.str "web" 411),(.str "numbers" 412)])
def S8:Obj:=(fR "laying_of" "laying_of" (top 22))
def Og:Obj:=(cO "laying_of" "laying_of" 408 409 410 80 2 0 0 3 (.ref 170) true 181 (.ref 171) .none (.ref 172) (.ref 173) (.ref 174) 413 80 414)
def On:Obj:=(fO "laying_of" "laying_of" (top 22) (.str "pebbletoll.layings" 406) (.ref 175))
def SE:Obj:=(fR "is_filled" "is_filled" (top 23))
def NL:Obj:=(cO "is_filled" "is_filled" 416 417 418 84 2 0 0 3 (.ref 177) true 181 (.ref 178) .none .none .none (.ref 179) 419 84 420)
def OM:Obj:=(fO "is_filled" "is_filled" (top 23) (.str "pebbletoll.layings" 406) (.ref 180))
def Op:Obj:=(tO #[(.str "web" 427),(.str "r" 428),(.str "nearer" 429),(.str "waiting" 430),(.str "place" 431),(.str "front" 432),(.str "kid" 433)])
def Q4:Obj:=(fR "ahead" "ahead" (top 25))
def NR:Obj:=(cO "ahead" "ahead" 424 425 426 87 2 0 0 3 (.ref 182) true 181 (.ref 183) .none (.ref 184) (.ref 185) (.ref 186) 434 87 435)
def ON:Obj:=(fO "ahead" "ahead" (top 25) (.str "pebbletoll.ways" 422) (.ref 187))
def OZ:Obj:=(tO #[(.str "web" 440),(.str "r" 441),(.str "nearer" 442),(.str "places" 443),(.str "waiting" 444),(.str "place" 445),(.str "kid" 446)])
def Q5:Obj:=(fR "down" "down" (top 26))
def OT:Obj:=(cO "down" "down" 437 438 439 98 2 0 0 3 (.ref 189) true 181 (.ref 190) .none (.ref 191) (.ref 192) (.ref 193) 447 98 448)
def Oc:Obj:=(fO "down" "down" (top 26) (.str "pebbletoll.ways" 422) (.ref 194))
def Rp:Obj:=(fR "kids" "kids" (top 27))
def NH:Obj:=(cO "kids" "kids" 450 451 452 108 3 0 0 3 (.ref 196) true 181 (.ref 197) .none .none .none (.ref 198) 453 108 454)
def NV:Obj:=(fO "kids" "kids" (top 27) (.str "pebbletoll.ways" 422) (.ref 199))
def Tg:Obj:=(fR "inward" "inward" (top 28))
def OX:Obj:=(cO "inward" "inward" 456 457 458 110 2 0 0 3 (.ref 201) true 181 (.ref 202) .none .none .none (.ref 203) 459 110 460)
def NS:Obj:=(fO "inward" "inward" (top 28) (.str "pebbletoll.ways" 422) (.ref 204))
noncomputable def h0 (P:Params):Heap:=.mk (.mk (boot_o_0 P::boot_o_1 P::boot_o_2 P::x4 P::boot_o_4 P::boot_o_5 P::boot_o_6 P::boot_o_7 P::boot_o_8 P::boot_o_9 P::boot_o_10 P::x0::x5::x2::x3::x6::x7::x8 P::x0::x1::x9::x10::x0::x11 P::x12::x13::x14::x15::x16::x7::x17 P::x0::x1::x18::x19::x0::x20 P::x21::x22::x23::x16::x7::x24 P::x0::x1::x25::x26::x0::x27 P::x28::x29::x30::x16::x7::x31 P::x0::x1::x32::x33::x0::x34 P::x35::x36::x37::x16::x7::x38 P::x0::x1::x39::x40::x0::x41 P::x42::x43::x44::x16::x7::x45 P::x0::x1::x46::x47::x0::x48 P::x49::x50::x51::x0::x7::x52 P::x0::x53::x54::x55::x0::x1::x56::x57::x58::x59::x60 P::x61::x62::x63::x64::x65::x0::x1::x66::x0::x67::x68::x69::x0::x1::x70::x0::x71::x72::x73::x0::x1::x74::x0::x75::x76::x77::x0::x1::x78::x0::x79::x80::x81::x0::x1::x82::x0::x83::x84::x85::x0::x1::x86::x0::x87::x88::x89::x0::x1::x90::x0::x91::x92::x93::x0::x1::x94::x0::x95::x96::x97::x0::x1::x98::x0::x99::Oz::NP::x0::x1::Nu::x0::S8::Og::On::x0::x1::SE::NL::OM::x0::x1::Op::x0::Q4::NR::ON::x0::x1::OZ::x0::Q5::OT::Oc::x0::x1::Rp::NH::NV::x0::x1::Tg::OX::NS::[])) (.mk [] [] [] 0 [] [] false #[] [] 0 false false false 0 [2000,10,10] false 0 true [] [] 0 false)
theorem WG (w:World) (os:OsState):segRun treeTable PySem.Challenge.pw_pebbletoll_k25_whole_steps_that_meet w 11 (some (.ref 6)) 1 1993 (Shared.mk (hb w.params) (.mk []) (.mk 0 0 0 0) 187 os) (piecesOf st0 env cE (.mk 0 0 0 0) [topFrame (.mk 0 0 0 0)])=some (.next,(Shared.mk (h0 w.params) (.mk []) (.mk 0 0 0 0) 462 os),cE,(.mk 110 0 112 85)):=by kernel_rfl
def SR (P:Params):Obj:=(.mk (.type "dict") none (.dict #[(en P "__name__" 165 (.str "law_pebbletoll_k25_whole_steps_that_meet" 551)),(en P "__doc__" 166 .none),(en P "__package__" 167 .none),(en P "__loader__" 168 (.builtin "__main__.__loader__#opaque")),(en P "__spec__" 169 .none),(en P "__annotations__" 170 (.ref 6)),(en P "__builtins__" 171 (.ref 4)),(en P "__file__" 173 (.str "/claim/cut.py" 172)),(en P "__cached__" 174 .none),(en P "TollError" 206 (.ref 24)),(en P "BadWeb" 222 (.ref 37)),(en P "NoPlace" 238 (.ref 49)),(en P "NoRoad" 254 (.ref 61)),(en P "BadLaying" 270 (.ref 73)),(en P "BadWish" 286 (.ref 85)),(en P "MOST_PLACES" 290 (.int 24 289)),(en P "LEAST_TOLL" 292 (.int 2 291)),(en P "MOST_TOLL" 294 (.int 1000000 293)),(en P "Web" 322 (.ref 102)),(en P "toll" 335 (.ref 113)),(en P "neighbours" 343 (.ref 120)),(en P "check_place" 351 (.ref 127)),(en P "is_place" 359 (.ref 134)),(en P "check_counts" 367 (.ref 141)),(en P "check_ends" 375 (.ref 148)),(en P "check_tolls" 383 (.ref 155)),(en P "check_joined" 395 (.ref 162)),(en P "other_ends" 405 (.ref 169)),(en P "laying_of" 415 (.ref 176)),(en P "is_filled" 421 (.ref 181)),(en P "ahead" 436 (.ref 188)),(en P "down" 449 (.ref 195)),(en P "kids" 455 (.ref 200)),(en P "inward" 461 (.ref 205)),(en P "wish_of" 471 (.ref 212)),(en P "standings" 477 (.ref 217)),(en P "handed_on" 487 (.ref 224)),(en P "standing" 497 (.ref 231)),(en P "is_met" 506 (.ref 238)),(en P "meeting" 515 (.ref 245)),(en P "steps_in" 530 (.ref 252)),(en P "steps_out" 544 (.ref 259)),(en P "lacks_of" 550 (.ref 264)),(en P "_law_drawn" 563 (.ref 271)),(en P "_law_toll" 570 (.ref 278)),(en P "_law_roads" 585 (.ref 285)),(en P "_law_web" 595 (.ref 292)),(en P "_law_tolls" 607 (.ref 299)),(en P "_law_down" 621 (.ref 306)),(en P "_law_standings" 627 (.ref 311)),(en P "_law_whole" 634 (.ref 318)),(en P "_law_bound" 642 (.ref 325)),(en P "_law_laying" 654 (.ref 332)),(en P "_law_wish" 666 (.ref 339)),(en P "_law_edge" 680 (.ref 346)),(en P "_law_done" 693 (.ref 353)),(en P "_law_covers" 699 (.ref 358)),(en P "_law_steps_formed" 705 (.ref 363)),(en P "_law_tuples_too" 715 (.ref 370)),(en P "law" 721 (.ref 375))] 60) #[])
def Wh:Obj:=(.mk .none none (.fields #[(.int 2 0),(.int 0 0),(.ref 20),(.int 4 0),(.int 0 0),(.ref 33),(.int 6 0),(.int 0 0),(.ref 45),(.int 8 0),(.int 0 0),(.ref 57),(.int 10 0),(.int 0 0),(.ref 69),(.int 12 0),(.int 0 0),(.ref 81),(.int 18 0),(.int 0 0),(.ref 93),(.int 29 0),(.int 0 0),(.ref 112),(.int 38 0),(.int 0 0),(.ref 119),(.int 41 0),(.int 0 0),(.ref 126),(.int 44 0),(.int 0 0),(.ref 133),(.int 46 0),(.int 0 0),(.ref 140),(.int 51 0),(.int 0 0),(.ref 147),(.int 56 0),(.int 0 0),(.ref 154),(.int 60 0),(.int 0 0),(.ref 161),(.int 71 0),(.int 0 0),(.ref 168),(.int 80 0),(.int 0 0),(.ref 175),(.int 84 0),(.int 0 0),(.ref 180),(.int 87 0),(.int 0 0),(.ref 187),(.int 98 0),(.int 0 0),(.ref 194),(.int 108 0),(.int 0 0),(.ref 199),(.int 110 0),(.int 0 0),(.ref 204),(.int 114 0),(.int 0 0),(.ref 211),(.int 118 0),(.int 0 0),(.ref 216),(.int 125 0),(.int 0 0),(.ref 223),(.int 129 0),(.int 0 0),(.ref 230),(.int 131 0),(.int 0 0),(.ref 237),(.int 133 0),(.int 0 0),(.ref 244),(.int 137 0),(.int 0 0),(.ref 251),(.int 145 0),(.int 0 0),(.ref 258),(.int 152 0),(.int 0 0),(.ref 263),(.int 155 0),(.int 0 0),(.ref 270),(.int 164 0),(.int 0 0),(.ref 277),(.int 168 0),(.int 0 0),(.ref 284),(.int 183 0),(.int 0 0),(.ref 291),(.int 189 0),(.int 0 0),(.ref 298),(.int 195 0),(.int 0 0),(.ref 305),(.int 205 0),(.int 0 0),(.ref 310),(.int 213 0),(.int 0 0),(.ref 317),(.int 215 0),(.int 0 0),(.ref 324),(.int 218 0),(.int 0 0),(.ref 331),(.int 225 0),(.int 0 0),(.ref 338),(.int 232 0),(.int 0 0),(.ref 345),(.int 240 0),(.int 0 0),(.ref 352),(.int 248 0),(.int 0 0),(.ref 357),(.int 250 0),(.int 0 0),(.ref 362),(.int 259 0),(.int 0 0),(.ref 369),(.int 262 0),(.int 0 0),(.ref 374)]) #[])
def S6:Obj:=(tO #[(.str "web" 467),(.str "numbers" 468)])
def Vl:Obj:=(fR "wish_of" "wish_of" (top 30))
def Ti:Obj:=(cO "wish_of" "wish_of" 464 465 466 114 2 0 0 3 (.ref 206) true 181 (.ref 207) .none (.ref 208) (.ref 209) (.ref 210) 469 114 470)
def Sy:Obj:=(fO "wish_of" "wish_of" (top 30) (.str "pebbletoll.wishes" 462) (.ref 211))
def Vi:Obj:=(fR "standings" "standings" (top 31))
def Rb:Obj:=(cO "standings" "standings" 472 473 474 118 4 0 0 3 (.ref 213) true 181 (.ref 214) .none .none .none (.ref 215) 475 118 476)
def TC:Obj:=(fO "standings" "standings" (top 31) (.str "pebbletoll.wishes" 462) (.ref 216))
def Se:Obj:=(tO #[(.str "web" 481),(.str "over" 482),(.str "place" 483),(.str "front" 484)])
def VT:Obj:=(fR "handed_on" "handed_on" (top 32))
def Sv:Obj:=(cO "handed_on" "handed_on" 478 479 480 125 4 0 0 3 (.ref 218) true 181 (.ref 219) .none (.ref 220) (.ref 221) (.ref 222) 485 125 486)
def Tv:Obj:=(fO "handed_on" "handed_on" (top 32) (.str "pebbletoll.wishes" 462) (.ref 223))
def S5:Obj:=(tO #[(.str "web" 491),(.str "laying" 492),(.str "wish" 493),(.str "r" 494)])
def Vs:Obj:=(fR "standing" "standing" (top 33))
def SX:Obj:=(cO "standing" "standing" 488 489 490 129 4 0 0 3 (.ref 225) true 181 (.ref 226) .none (.ref 227) (.ref 228) (.ref 229) 495 129 496)
def Sr:Obj:=(fO "standing" "standing" (top 33) (.str "pebbletoll.wishes" 462) (.ref 230))
def RP:Obj:=(tO #[(.str "web" 501),(.str "laying" 502),(.str "wish" 503)])
def V1:Obj:=(fR "is_met" "is_met" (top 34))
def Ry:Obj:=(cO "is_met" "is_met" 498 499 500 131 3 0 0 3 (.ref 232) true 181 (.ref 233) .none (.ref 234) (.ref 235) (.ref 236) 504 131 505)
def RJ:Obj:=(fO "is_met" "is_met" (top 34) (.str "pebbletoll.wishes" 462) (.ref 237))
def Tp:Obj:=(tO #[(.str "web" 510),(.str "laying" 511),(.str "wish" 512)])
def VG:Obj:=(fR "meeting" "meeting" (top 35))
def Ro:Obj:=(cO "meeting" "meeting" 507 508 509 133 3 0 0 3 (.ref 239) true 181 (.ref 240) .none (.ref 241) (.ref 242) (.ref 243) 513 133 514)
def Sx:Obj:=(fO "meeting" "meeting" (top 35) (.str "pebbletoll.wishes" 462) (.ref 244))
def SQ:Obj:=(tO #[(.str "web" 519),(.str "laying" 520),(.str "wish" 521),(.str "r" 522),(.str "over" 523),(.str "steps" 524),(.str "place" 525),(.str "front" 526),(.str "times" 527)])
def Wc:Obj:=(fR "steps_in" "steps_in" (top 36))
def RC:Obj:=(cO "steps_in" "steps_in" 516 517 518 137 4 0 0 3 (.ref 246) true 181 (.ref 247) .none (.ref 248) (.ref 249) (.ref 250) 528 137 529)
def Rq:Obj:=(fO "steps_in" "steps_in" (top 36) (.str "pebbletoll.wishes" 462) (.ref 251))
def Tl:Obj:=(tO #[(.str "web" 534),(.str "laying" 535),(.str "wish" 536),(.str "r" 537),(.str "over" 538),(.str "steps" 539),(.str "place" 540),(.str "front" 541)])
def VM:Obj:=(fR "steps_out" "steps_out" (top 37))
def RD:Obj:=(cO "steps_out" "steps_out" 531 532 533 145 4 0 0 3 (.ref 253) true 181 (.ref 254) .none (.ref 255) (.ref 256) (.ref 257) 542 145 543)
def SN:Obj:=(fO "steps_out" "steps_out" (top 37) (.str "pebbletoll.wishes" 462) (.ref 258))
def Wi:Obj:=(fR "lacks_of" "lacks_of" (top 38))
def S3:Obj:=(cO "lacks_of" "lacks_of" 545 546 547 152 3 0 0 3 (.ref 260) true 181 (.ref 261) .none .none .none (.ref 262) 548 152 549)
def SF:Obj:=(fO "lacks_of" "lacks_of" (top 38) (.str "pebbletoll.wishes" 462) (.ref 263))
def Ru:Obj:=(tO #[(.str "script" 556),(.str "k" 557),(.str "cell" 558),(.str "near" 559),(.str "far" 560)])
def VE:Obj:=(fR "_law_drawn" "_law_drawn" (top 40))
def QZ:Obj:=(cO "_law_drawn" "_law_drawn" 553 554 555 155 2 0 0 3 (.ref 265) true 181 (.ref 266) .none (.ref 267) (.ref 268) (.ref 269) 561 155 562)
def RN:Obj:=(fO "_law_drawn" "_law_drawn" (top 40) (.str "law_pebbletoll_k25_whole_steps_that_meet" 551) (.ref 270))
def Sz:Obj:=(tO #[(.str "part" 567)])
def VW:Obj:=(fR "_law_toll" "_law_toll" (top 41))
def Sa:Obj:=(cO "_law_toll" "_law_toll" 564 565 566 164 1 0 0 3 (.ref 272) true 181 (.ref 273) .none (.ref 274) (.ref 275) (.ref 276) 568 164 569)
def Ri:Obj:=(fO "_law_toll" "_law_toll" (top 41) (.str "law_pebbletoll_k25_whole_steps_that_meet" 551) (.ref 277))
def Tj:Obj:=(tO #[(.str "script" 574),(.str "many" 575),(.str "shape" 576),(.str "roads" 577),(.str "k" 578),(.str "part" 579),(.str "to" 580),(.str "there" 581),(.str "back" 582)])
def V3:Obj:=(fR "_law_roads" "_law_roads" (top 42))
def Q7:Obj:=(cO "_law_roads" "_law_roads" 571 572 573 168 3 0 0 3 (.ref 279) true 181 (.ref 280) .none (.ref 281) (.ref 282) (.ref 283) 583 168 584)
def RY:Obj:=(fO "_law_roads" "_law_roads" (top 42) (.str "law_pebbletoll_k25_whole_steps_that_meet" 551) (.ref 284))
def RT:Obj:=(tO #[(.str "script" 589),(.str "reach" 590),(.str "head" 591),(.str "many" 592)])
def VP:Obj:=(fR "_law_web" "_law_web" (top 43))
def Tf:Obj:=(cO "_law_web" "_law_web" 586 587 588 183 2 0 0 3 (.ref 286) true 181 (.ref 287) .none (.ref 288) (.ref 289) (.ref 290) 593 183 594)
def Tt:Obj:=(fO "_law_web" "_law_web" (top 43) (.str "law_pebbletoll_k25_whole_steps_that_meet" 551) (.ref 291))
def Sh:Obj:=(tO #[(.str "roads" 599),(.str "tolls" 600),(.str "one" 601),(.str "other" 602),(.str "there" 603),(.str "back" 604)])
def Vj:Obj:=(fR "_law_tolls" "_law_tolls" (top 44))
def S9:Obj:=(cO "_law_tolls" "_law_tolls" 596 597 598 189 1 0 0 3 (.ref 293) true 181 (.ref 294) .none (.ref 295) (.ref 296) (.ref 297) 605 189 606)
def SK:Obj:=(fO "_law_tolls" "_law_tolls" (top 44) (.str "law_pebbletoll_k25_whole_steps_that_meet" 551) (.ref 298))
def RK:Obj:=(tO #[(.str "tolls" 611),(.str "many" 612),(.str "r" 613),(.str "order" 614),(.str "at" 615),(.str "place" 616),(.str "above" 617),(.str "kid" 618)])
def V9:Obj:=(fR "_law_down" "_law_down" (top 45))
def SZ:Obj:=(cO "_law_down" "_law_down" 608 609 610 195 3 0 0 3 (.ref 300) true 181 (.ref 301) .none (.ref 302) (.ref 303) (.ref 304) 619 195 620)
def SU:Obj:=(fO "_law_down" "_law_down" (top 45) (.str "law_pebbletoll_k25_whole_steps_that_meet" 551) (.ref 305))
def Vk:Obj:=(fR "_law_standings" "_law_standings" (top 46))
def RG:Obj:=(cO "_law_standings" "_law_standings" 622 623 624 205 5 0 0 3 (.ref 307) true 181 (.ref 308) .none .none .none (.ref 309) 625 205 626)
def SV:Obj:=(fO "_law_standings" "_law_standings" (top 46) (.str "law_pebbletoll_k25_whole_steps_that_meet" 551) (.ref 310))
def Tb:Obj:=(tO #[(.str "number" 631)])
def We:Obj:=(fR "_law_whole" "_law_whole" (top 47))
def S2:Obj:=(cO "_law_whole" "_law_whole" 628 629 630 213 1 0 0 3 (.ref 312) true 181 (.ref 313) .none (.ref 314) (.ref 315) (.ref 316) 632 213 633)
def Sq:Obj:=(fO "_law_whole" "_law_whole" (top 47) (.str "law_pebbletoll_k25_whole_steps_that_meet" 551) (.ref 317))
def Q2:Obj:=(tO #[(.str "script" 638),(.str "head" 639)])
def Wa:Obj:=(fR "_law_bound" "_law_bound" (top 48))
def Tz:Obj:=(cO "_law_bound" "_law_bound" 635 636 637 215 1 0 0 3 (.ref 319) true 181 (.ref 320) .none (.ref 321) (.ref 322) (.ref 323) 640 215 641)
def Rz:Obj:=(fO "_law_bound" "_law_bound" (top 48) (.str "law_pebbletoll_k25_whole_steps_that_meet" 551) (.ref 324))
def RX:Obj:=(tO #[(.str "script" 646),(.str "many" 647),(.str "bound" 648),(.str "laying" 649),(.str "k" 650),(.str "place" 651)])
def Ve:Obj:=(fR "_law_laying" "_law_laying" (top 49))
def RO:Obj:=(cO "_law_laying" "_law_laying" 643 644 645 218 3 0 0 3 (.ref 326) true 181 (.ref 327) .none (.ref 328) (.ref 329) (.ref 330) 652 218 653)
def Ra:Obj:=(fO "_law_laying" "_law_laying" (top 49) (.str "law_pebbletoll_k25_whole_steps_that_meet" 551) (.ref 331))
def Sj:Obj:=(tO #[(.str "script" 658),(.str "many" 659),(.str "bound" 660),(.str "wish" 661),(.str "k" 662),(.str "place" 663)])
def VS:Obj:=(fR "_law_wish" "_law_wish" (top 50))
def SD:Obj:=(cO "_law_wish" "_law_wish" 655 656 657 225 3 0 0 3 (.ref 333) true 181 (.ref 334) .none (.ref 335) (.ref 336) (.ref 337) 664 225 665)
def SW:Obj:=(fO "_law_wish" "_law_wish" (top 50) (.str "law_pebbletoll_k25_whole_steps_that_meet" 551) (.ref 338))
def Q1:Obj:=(tO #[(.str "script" 670),(.str "tolls" 671),(.str "many" 672),(.str "laying" 673),(.str "wish" 674),(.str "head" 675),(.str "r" 676),(.str "due" 677)])
def VX:Obj:=(fR "_law_edge" "_law_edge" (top 51))
def Sn:Obj:=(cO "_law_edge" "_law_edge" 667 668 669 232 5 0 0 3 (.ref 340) true 181 (.ref 341) .none (.ref 342) (.ref 343) (.ref 344) 678 232 679)
def Sg:Obj:=(fO "_law_edge" "_law_edge" (top 51) (.str "law_pebbletoll_k25_whole_steps_that_meet" 551) (.ref 345))
def Ty:Obj:=(tO #[(.str "tolls" 684),(.str "laying" 685),(.str "steps" 686),(.str "held" 687),(.str "a" 688),(.str "b" 689),(.str "often" 690)])
def V7:Obj:=(fR "_law_done" "_law_done" (top 52))
def Rg:Obj:=(cO "_law_done" "_law_done" 681 682 683 240 3 0 0 3 (.ref 347) true 181 (.ref 348) .none (.ref 349) (.ref 350) (.ref 351) 691 240 692)
def Ss:Obj:=(fO "_law_done" "_law_done" (top 52) (.str "law_pebbletoll_k25_whole_steps_that_meet" 551) (.ref 352))
def Wb:Obj:=(fR "_law_covers" "_law_covers" (top 53))
def Rc:Obj:=(cO "_law_covers" "_law_covers" 694 695 696 248 2 0 0 3 (.ref 354) true 181 (.ref 355) .none .none .none (.ref 356) 697 248 698)
def Sk:Obj:=(fO "_law_covers" "_law_covers" (top 53) (.str "law_pebbletoll_k25_whole_steps_that_meet" 551) (.ref 357))
def VN:Obj:=(fR "_law_steps_formed" "_law_steps_formed" (top 54))
def SC:Obj:=(cO "_law_steps_formed" "_law_steps_formed" 700 701 702 250 1 0 0 3 (.ref 359) true 181 (.ref 360) .none .none .none (.ref 361) 703 250 704)
def Rv:Obj:=(fO "_law_steps_formed" "_law_steps_formed" (top 54) (.str "law_pebbletoll_k25_whole_steps_that_meet" 551) (.ref 362))
def SI:Obj:=(tO #[(.str "web" 709),(.str "laying" 710),(.str "wish" 711),(.str "told" 712)])
def VQ:Obj:=(fR "_law_tuples_too" "_law_tuples_too" (top 55))
def R8:Obj:=(cO "_law_tuples_too" "_law_tuples_too" 706 707 708 259 3 0 0 3 (.ref 364) true 181 (.ref 365) .none (.ref 366) (.ref 367) (.ref 368) 713 259 714)
def S4:Obj:=(fO "_law_tuples_too" "_law_tuples_too" (top 55) (.str "law_pebbletoll_k25_whole_steps_that_meet" 551) (.ref 369))
def Wk:Obj:=(fR "law" "law" (top 56))
def RI:Obj:=(cO "law" "law" 716 717 718 262 1 0 0 3 (.ref 371) true 181 (.ref 372) .none .none .none (.ref 373) 719 262 720)
def RQ:Obj:=(fO "law" "law" (top 56) (.str "law_pebbletoll_k25_whole_steps_that_meet" 551) (.ref 374))
noncomputable def h1 (P:Params):Heap:=.mk (.mk (boot_o_0 P::boot_o_1 P::boot_o_2 P::SR P::boot_o_4 P::boot_o_5 P::boot_o_6 P::boot_o_7 P::boot_o_8 P::boot_o_9 P::boot_o_10 P::x0::Wh::x2::x3::x6::x7::x8 P::x0::x1::x9::x10::x0::x11 P::x12::x13::x14::x15::x16::x7::x17 P::x0::x1::x18::x19::x0::x20 P::x21::x22::x23::x16::x7::x24 P::x0::x1::x25::x26::x0::x27 P::x28::x29::x30::x16::x7::x31 P::x0::x1::x32::x33::x0::x34 P::x35::x36::x37::x16::x7::x38 P::x0::x1::x39::x40::x0::x41 P::x42::x43::x44::x16::x7::x45 P::x0::x1::x46::x47::x0::x48 P::x49::x50::x51::x0::x7::x52 P::x0::x53::x54::x55::x0::x1::x56::x57::x58::x59::x60 P::x61::x62::x63::x64::x65::x0::x1::x66::x0::x67::x68::x69::x0::x1::x70::x0::x71::x72::x73::x0::x1::x74::x0::x75::x76::x77::x0::x1::x78::x0::x79::x80::x81::x0::x1::x82::x0::x83::x84::x85::x0::x1::x86::x0::x87::x88::x89::x0::x1::x90::x0::x91::x92::x93::x0::x1::x94::x0::x95::x96::x97::x0::x1::x98::x0::x99::Oz::NP::x0::x1::Nu::x0::S8::Og::On::x0::x1::SE::NL::OM::x0::x1::Op::x0::Q4::NR::ON::x0::x1::OZ::x0::Q5::OT::Oc::x0::x1::Rp::NH::NV::x0::x1::Tg::OX::NS::x0::x1::S6::x0::Vl::Ti::Sy::x0::x1::Vi::Rb::TC::x0::x1::Se::x0::VT::Sv::Tv::x0::x1::S5::x0::Vs::SX::Sr::x0::x1::RP::x0::V1::Ry::RJ::x0::x1::Tp::x0::VG::Ro::Sx::x0::x1::SQ::x0::Wc::RC::Rq::x0::x1::Tl::x0::VM::RD::SN::x0::x1::Wi::S3::SF::x0::x1::Ru::x0::VE::QZ::RN::x0::x1::Sz::x0::VW::Sa::Ri::x0::x1::Tj::x0::V3::Q7::RY::x0::x1::RT::x0::VP::Tf::Tt::x0::x1::Sh::x0::Vj::S9::SK::x0::x1::RK::x0::V9::SZ::SU::x0::x1::Vk::RG::SV::x0::x1::Tb::x0::We::S2::Sq::x0::x1::Q2::x0::Wa::Tz::Rz::x0::x1::RX::x0::Ve::RO::Ra::x0::x1::Sj::x0::VS::SD::SW::x0::x1::Q1::x0::VX::Sn::Sg::x0::x1::Ty::x0::V7::Rg::Ss::x0::x1::Wb::Rc::Sk::x0::x1::VN::SC::Rv::x0::x1::SI::x0::VQ::R8::S4::x0::x1::Wk::RI::RQ::[])) (.mk [] [] [] 0 [] [] false #[] [] 0 false false false 0 [2000,10,10] false 0 true [] [] 0 false)
theorem WM (w:World) (os:OsState):segRun treeTable PySem.Challenge.pw_pebbletoll_k25_whole_steps_that_meet w 11 (some (.ref 6)) 1 835 (Shared.mk (h0 w.params) (.mk []) (.mk 0 0 0 0) 462 os) (piecesOf st1 env cE (.mk 110 0 112 85) [topFrame (.mk 0 0 0 0)])=some (.next,(Shared.mk (h1 w.params) (.mk []) (.mk 0 0 0 0) 722 os),cE,(.mk 262 0 288 93)):=by kernel_rfl
noncomputable def hf (P:Params):Heap:=.mk (.mk (boot_o_0 P::boot_o_1 P::boot_o_2 P::SR P::boot_o_4 P::boot_o_5 P::boot_o_6 P::boot_o_7 P::boot_o_8 P::boot_o_9 P::boot_o_10 P::x0::Wh::x2::x3::x6::x7::x8 P::x0::x1::x9::x10::x0::x11 P::x12::x13::x14::x15::x16::x7::x17 P::x0::x1::x18::x19::x0::x20 P::x21::x22::x23::x16::x7::x24 P::x0::x1::x25::x26::x0::x27 P::x28::x29::x30::x16::x7::x31 P::x0::x1::x32::x33::x0::x34 P::x35::x36::x37::x16::x7::x38 P::x0::x1::x39::x40::x0::x41 P::x42::x43::x44::x16::x7::x45 P::x0::x1::x46::x47::x0::x48 P::x49::x50::x51::x0::x7::x52 P::x0::x53::x54::x55::x0::x1::x56::x57::x58::x59::x60 P::x61::x62::x63::x64::x65::x0::x1::x66::x0::x67::x68::x69::x0::x1::x70::x0::x71::x72::x73::x0::x1::x74::x0::x75::x76::x77::x0::x1::x78::x0::x79::x80::x81::x0::x1::x82::x0::x83::x84::x85::x0::x1::x86::x0::x87::x88::x89::x0::x1::x90::x0::x91::x92::x93::x0::x1::x94::x0::x95::x96::x97::x0::x1::x98::x0::x99::Oz::NP::x0::x1::Nu::x0::S8::Og::On::x0::x1::SE::NL::OM::x0::x1::Op::x0::Q4::NR::ON::x0::x1::OZ::x0::Q5::OT::Oc::x0::x1::Rp::NH::NV::x0::x1::Tg::OX::NS::x0::x1::S6::x0::Vl::Ti::Sy::x0::x1::Vi::Rb::TC::x0::x1::Se::x0::VT::Sv::Tv::x0::x1::S5::x0::Vs::SX::Sr::x0::x1::RP::x0::V1::Ry::RJ::x0::x1::Tp::x0::VG::Ro::Sx::x0::x1::SQ::x0::Wc::RC::Rq::x0::x1::Tl::x0::VM::RD::SN::x0::x1::Wi::S3::SF::x0::x1::Ru::x0::VE::QZ::RN::x0::x1::Sz::x0::VW::Sa::Ri::x0::x1::Tj::x0::V3::Q7::RY::x0::x1::RT::x0::VP::Tf::Tt::x0::x1::Sh::x0::Vj::S9::SK::x0::x1::RK::x0::V9::SZ::SU::x0::x1::Vk::RG::SV::x0::x1::Tb::x0::We::S2::Sq::x0::x1::Q2::x0::Wa::Tz::Rz::x0::x1::RX::x0::Ve::RO::Ra::x0::x1::Sj::x0::VS::SD::SW::x0::x1::Q1::x0::VX::Sn::Sg::x0::x1::Ty::x0::V7::Rg::Ss::x0::x1::Wb::Rc::Sk::x0::x1::VN::SC::Rv::x0::x1::SI::x0::VQ::R8::S4::x0::x1::Wk::RI::RQ::[])) (.mk [] [] [] 0 [] [] false #[] [] 0 false false false 0 [2000,10,10] false 0 true [] [] 0 false)
theorem WJ (w:World) (os:OsState):topRun treeTable PySem.Challenge.pw_pebbletoll_k25_whole_steps_that_meet w 11 (some (.ref 6)) 2 (Shared.mk (h1 w.params) (.mk []) (.mk 0 0 0 0) 722 os) (restOf [] env cE (.mk 262 0 288 93) [topFrame (.mk 0 0 0 0)])=some (Shared.mk (hf w.params) (.mk []) (.mk 0 0 0 0) 722 os):=by kernel_rfl
theorem run (w:World) (os:OsState):topRun treeTable PySem.Challenge.pw_pebbletoll_k25_whole_steps_that_meet w 11 (some (.ref 6)) (12+(1+(1993+(835+(2))))) (Shared.mk (boot_heap w.params) (.mk []) boot_drawn boot_toks os) (topStub PySem.Challenge.pw_pebbletoll_k25_whole_steps_that_meet)=some (Shared.mk (hf w.params) (.mk []) (.mk 0 0 0 0) 722 os):=go_top (WS w os) (piece_block (WH w os) (piece_app (WG w os) (piece_app (WM w os) (WJ w os))))
theorem opn:∀ w:World,(fencedOpening treeTable PySem.Challenge.pw_pebbletoll_k25_whole_steps_that_meet w 5778).map (fun s=>(s.heap,s.gens,s.drawn,s.toks))=some (boot_heap w.params,Array.mk [],boot_drawn,boot_toks):=boot_open (by kernel_rfl) (by decide) fun s=>by kernel_rfl
theorem siz (w:World):((boot_heap w.params).isNs mainGlobals && (Array.mk ([]:List GenState)).size == 0,(boot_heap w.params).objs.size,(boot_heap w.params).nsMap mainGlobals "__annotations__")=(true,11,(some (.ref 6))):=by kernel_rfl
noncomputable def KK:Params->Frag:=fun P =>
 (nat_lit 2,boot_o_2 P) ::
 (nat_lit 3,SR P) ::
 (nat_lit 15,x6) ::
 (nat_lit 22,x0) ::
 (nat_lit 23,x11 P) ::
 (nat_lit 24,x12) ::
 (nat_lit 25,x13) ::
 (nat_lit 28,x16) ::
 (nat_lit 35,x0) ::
 (nat_lit 36,x20 P) ::
 (nat_lit 37,x21) ::
 (nat_lit 40,x16) ::
 (nat_lit 47,x0) ::
 (nat_lit 48,x27 P) ::
 (nat_lit 49,x28) ::
 (nat_lit 52,x16) ::
 (nat_lit 59,x0) ::
 (nat_lit 60,x34 P) ::
 (nat_lit 61,x35) ::
 (nat_lit 64,x16) ::
 (nat_lit 71,x0) ::
 (nat_lit 72,x41 P) ::
 (nat_lit 73,x42) ::
 (nat_lit 76,x16) ::
 (nat_lit 83,x0) ::
 (nat_lit 84,x48 P) ::
 (nat_lit 85,x49) ::
 (nat_lit 95,x0) ::
 (nat_lit 98,x57) ::
 (nat_lit 99,x58) ::
 (nat_lit 100,x59) ::
 (nat_lit 101,x60 P) ::
 (nat_lit 102,x61) ::
 (nat_lit 103,x62) ::
 (nat_lit 104,x63) ::
 (nat_lit 107,x0) ::
 (nat_lit 109,x66) ::
 (nat_lit 110,x0) ::
 (nat_lit 112,x68) ::
 (nat_lit 113,x69) ::
 (nat_lit 114,x0) ::
 (nat_lit 116,x70) ::
 (nat_lit 117,x0) ::
 (nat_lit 119,x72) ::
 (nat_lit 120,x73) ::
 (nat_lit 121,x0) ::
 (nat_lit 123,x74) ::
 (nat_lit 124,x0) ::
 (nat_lit 126,x76) ::
 (nat_lit 127,x77) ::
 (nat_lit 128,x0) ::
 (nat_lit 130,x78) ::
 (nat_lit 131,x0) ::
 (nat_lit 133,x80) ::
 (nat_lit 134,x81) ::
 (nat_lit 135,x0) ::
 (nat_lit 137,x82) ::
 (nat_lit 138,x0) ::
 (nat_lit 140,x84) ::
 (nat_lit 141,x85) ::
 (nat_lit 142,x0) ::
 (nat_lit 144,x86) ::
 (nat_lit 145,x0) ::
 (nat_lit 147,x88) ::
 (nat_lit 148,x89) ::
 (nat_lit 149,x0) ::
 (nat_lit 151,x90) ::
 (nat_lit 152,x0) ::
 (nat_lit 154,x92) ::
 (nat_lit 155,x93) ::
 (nat_lit 156,x0) ::
 (nat_lit 158,x94) ::
 (nat_lit 159,x0) ::
 (nat_lit 161,x96) ::
 (nat_lit 162,x97) ::
 (nat_lit 163,x0) ::
 (nat_lit 165,x98) ::
 (nat_lit 166,x0) ::
 (nat_lit 168,Oz) ::
 (nat_lit 169,NP) ::
 (nat_lit 170,x0) ::
 (nat_lit 172,Nu) ::
 (nat_lit 173,x0) ::
 (nat_lit 175,Og) ::
 (nat_lit 176,On) ::
 (nat_lit 177,x0) ::
 (nat_lit 180,NL) ::
 (nat_lit 181,OM) ::
 (nat_lit 182,x0) ::
 (nat_lit 184,Op) ::
 (nat_lit 185,x0) ::
 (nat_lit 187,NR) ::
 (nat_lit 188,ON) ::
 (nat_lit 189,x0) ::
 (nat_lit 191,OZ) ::
 (nat_lit 192,x0) ::
 (nat_lit 194,OT) ::
 (nat_lit 195,Oc) ::
 (nat_lit 196,x0) ::
 (nat_lit 199,NH) ::
 (nat_lit 200,NV) ::
 (nat_lit 201,x0) ::
 (nat_lit 204,OX) ::
 (nat_lit 205,NS) ::
 (nat_lit 206,x0) ::
 (nat_lit 208,S6) ::
 (nat_lit 209,x0) ::
 (nat_lit 211,Ti) ::
 (nat_lit 212,Sy) ::
 (nat_lit 213,x0) ::
 (nat_lit 216,Rb) ::
 (nat_lit 217,TC) ::
 (nat_lit 218,x0) ::
 (nat_lit 220,Se) ::
 (nat_lit 221,x0) ::
 (nat_lit 223,Sv) ::
 (nat_lit 224,Tv) ::
 (nat_lit 225,x0) ::
 (nat_lit 227,S5) ::
 (nat_lit 228,x0) ::
 (nat_lit 230,SX) ::
 (nat_lit 231,Sr) ::
 (nat_lit 232,x0) ::
 (nat_lit 234,RP) ::
 (nat_lit 235,x0) ::
 (nat_lit 237,Ry) ::
 (nat_lit 238,RJ) ::
 (nat_lit 239,x0) ::
 (nat_lit 241,Tp) ::
 (nat_lit 242,x0) ::
 (nat_lit 244,Ro) ::
 (nat_lit 245,Sx) ::
 (nat_lit 246,x0) ::
 (nat_lit 248,SQ) ::
 (nat_lit 249,x0) ::
 (nat_lit 251,RC) ::
 (nat_lit 252,Rq) ::
 (nat_lit 253,x0) ::
 (nat_lit 255,Tl) ::
 (nat_lit 256,x0) ::
 (nat_lit 258,RD) ::
 (nat_lit 259,SN) ::
 (nat_lit 260,x0) ::
 (nat_lit 263,S3) ::
 (nat_lit 264,SF) ::
 (nat_lit 265,x0) ::
 (nat_lit 267,Ru) ::
 (nat_lit 268,x0) ::
 (nat_lit 270,QZ) ::
 (nat_lit 271,RN) ::
 (nat_lit 272,x0) ::
 (nat_lit 274,Sz) ::
 (nat_lit 275,x0) ::
 (nat_lit 277,Sa) ::
 (nat_lit 278,Ri) ::
 (nat_lit 279,x0) ::
 (nat_lit 281,Tj) ::
 (nat_lit 282,x0) ::
 (nat_lit 284,Q7) ::
 (nat_lit 285,RY) ::
 (nat_lit 286,x0) ::
 (nat_lit 288,RT) ::
 (nat_lit 289,x0) ::
 (nat_lit 291,Tf) ::
 (nat_lit 292,Tt) ::
 (nat_lit 293,x0) ::
 (nat_lit 295,Sh) ::
 (nat_lit 296,x0) ::
 (nat_lit 298,S9) ::
 (nat_lit 299,SK) ::
 (nat_lit 300,x0) ::
 (nat_lit 302,RK) ::
 (nat_lit 303,x0) ::
 (nat_lit 305,SZ) ::
 (nat_lit 306,SU) ::
 (nat_lit 307,x0) ::
 (nat_lit 310,RG) ::
 (nat_lit 311,SV) ::
 (nat_lit 312,x0) ::
 (nat_lit 314,Tb) ::
 (nat_lit 315,x0) ::
 (nat_lit 317,S2) ::
 (nat_lit 318,Sq) ::
 (nat_lit 319,x0) ::
 (nat_lit 321,Q2) ::
 (nat_lit 322,x0) ::
 (nat_lit 324,Tz) ::
 (nat_lit 325,Rz) ::
 (nat_lit 326,x0) ::
 (nat_lit 328,RX) ::
 (nat_lit 329,x0) ::
 (nat_lit 331,RO) ::
 (nat_lit 332,Ra) ::
 (nat_lit 333,x0) ::
 (nat_lit 335,Sj) ::
 (nat_lit 336,x0) ::
 (nat_lit 338,SD) ::
 (nat_lit 339,SW) ::
 (nat_lit 340,x0) ::
 (nat_lit 342,Q1) ::
 (nat_lit 343,x0) ::
 (nat_lit 345,Sn) ::
 (nat_lit 346,Sg) ::
 (nat_lit 347,x0) ::
 (nat_lit 349,Ty) ::
 (nat_lit 350,x0) ::
 (nat_lit 352,Rg) ::
 (nat_lit 353,Ss) ::
 (nat_lit 354,x0) ::
 (nat_lit 357,Rc) ::
 (nat_lit 358,Sk) ::
 (nat_lit 359,x0) ::
 (nat_lit 362,SC) ::
 (nat_lit 363,Rv) ::
 (nat_lit 364,x0) ::
 (nat_lit 366,SI) ::
 (nat_lit 367,x0) ::
 (nat_lit 369,R8) ::
 (nat_lit 370,S4) ::
 (nat_lit 371,x0) ::
 (nat_lit 374,RI) ::
 (nat_lit 375,RQ)::[]
abbrev qq:Program:=PySem.W.view PySem.Challenge.pw_pebbletoll_k25_whole_steps_that_meet [1,2,3,4,5,6,8,9,10,11,12,13,14,15,16,17,18,19,20,22,23,25,26,27,28,30,31,32,33,34,35,36,37,38,40,41,42,43,44,45,46,47,48,49,50,51,52,53,54,55,56]
abbrev asK:List Addr:=[2,3,15,22,23,24,25,28,35,36,37,40,47,48,49,52,59,60,61,64,71,72,73,76,83,84,85,95,98,99,100,101,102,103,104,107,109,110,112,113,114,116,117,119,120,121,123,124,126,127,128,130,131,133,134,135,137,138,140,141,142,144,145,147,148,149,151,152,154,155,156,158,159,161,162,163,165,166,168,169,170,172,173,175,176,177,180,181,182,184,185,187,188,189,191,192,194,195,196,199,200,201,204,205,206,208,209,211,212,213,216,217,218,220,221,223,224,225,227,228,230,231,232,234,235,237,238,239,241,242,244,245,246,248,249,251,252,253,255,256,258,259,260,263,264,265,267,268,270,271,272,274,275,277,278,279,281,282,284,285,286,288,289,291,292,293,295,296,298,299,300,302,303,305,306,307,310,311,312,314,315,317,318,319,321,322,324,325,326,328,329,331,332,333,335,336,338,339,340,342,343,345,346,347,349,350,352,353,354,357,358,359,362,363,364,366,367,369,370,371,374,375]
theorem asK_eq:∀ P,asK=(KK P).map (·.1):=fun _=>by kernel_rfl
theorem Wt (w:World):(fun os=>((staticsOk (importedModules PySem.Challenge.pw_pebbletoll_k25_whole_steps_that_meet.main.body) (boot_heap w.params) (hf w.params) && namesBound PySem.Challenge.pw_pebbletoll_k25_whole_steps_that_meet (hf w.params) && gensDone (Shared.mk (Hd.hf w.params) (.mk []) (.mk 0 0 0 0) 722 os) && laidKept (boot_heap w.params) (hf w.params)),openSeen qq [] (importedModules PySem.Challenge.pw_pebbletoll_k25_whole_steps_that_meet.main.body) (fun s=>PySem.W.xlAt Hd.qq [] s && PySem.W.recOk (PySem.W.RowW.records (PySem.W.OpenRow.toRowW (PySem.Challenge.rw_pebbletoll_k25_whole_steps_that_meet).row)) s) true (Shared.mk (Hd.hf w.params) (.mk []) (.mk 0 0 0 0) 722 os),Hook.obs (PySem.W.kHook Hd.KK Hd.asK Hd.asK_eq) (Shared.mk (Hd.hf w.params) (.mk []) (.mk 0 0 0 0) 722 os)))=fun _=>(true,openGood qq [],Hook.val (PySem.W.kHook Hd.KK Hd.asK Hd.asK_eq) w):=by kernel_rfl
theorem left:PySem.W.LeftO (PySem.Challenge.rw_pebbletoll_k25_whole_steps_that_meet).row.prog qq [] (fun s=>PySem.W.xlAt Hd.qq [] s && PySem.W.recOk (PySem.W.RowW.records (PySem.W.OpenRow.toRowW (PySem.Challenge.rw_pebbletoll_k25_whole_steps_that_meet).row)) s) (PySem.W.Hook.obs (PySem.W.kHook Hd.KK Hd.asK Hd.asK_eq)) (PySem.W.Hook.val (PySem.W.kHook Hd.KK Hd.asK Hd.asK_eq)) 5778:=LeftO.of_pieces opn siz run (by decide) Wt
end Hd
namespace L2
open PySem PySem.Spec PyProof.Rows
abbrev Key:=Sum Int Str
def zh:Key->Value->Bool
 | .inl k,v=>Value.isInt k v
 | .inr x,v=>Value.isStrOf x v
def WF (w:World):Key->Int
 | .inl k=>hashInt k
 | .inr x=>hashStr w x
theorem gR:∀ {k:Key} {v:Value},zh k v=true->(∃ i t,k=Sum.inl i/\v=Value.int i t)\/(∃ x t,k=Sum.inr x/\v=Value.str x t)
 | .inl i,v,h=>by
   obtain ⟨t,e⟩:=Value.isInt_shape (k:=i) (v:=v) h;exact .inl ⟨i,t,rfl,e⟩
 | .inr x,v,h=>by
   obtain ⟨t,e⟩:=Value.isStrOf_shape (x:=x) (v:=v) h;exact .inr ⟨x,t,rfl,e⟩
theorem QP (i:Int) (t:Tok):zh (.inl i) (.int i t)=true:=by simp [zh,Value.isInt]
theorem Pp (x:Str) (t:Tok):zh (.inr x) (.str x t)=true:=by simp [zh,Value.isStrOf]
theorem VA (a b:Int):decide ((Sum.inl a:Key)=Sum.inl b)=(a == b):=by
 by_cases e:a=b
 . subst e;simp
 . have h:¬ (Sum.inl a:Key)=Sum.inl b:=fun q=>e (Sum.inl.inj q);rw [bH h];exact (beq_eq_false_iff_ne.mpr e).symm
theorem Vy (a b:Str):decide ((Sum.inr a:Key)=Sum.inr b)=decide (a=b):=by
 by_cases e:a=b
 . subst e;simp
 . have h:¬ (Sum.inr a:Key)=Sum.inr b:=fun q=>e (Sum.inr.inj q);rw [bH h,bH e]
theorem Vu (a:Int) (b:Str):decide ((Sum.inl a:Key)=Sum.inr b)=false:=bH (fun q=>nomatch q)
theorem Vg (a:Str) (b:Int):decide ((Sum.inr a:Key)=Sum.inl b)=false:=bH (fun q=>nomatch q)
def bz (prog:Program) (w:World):PySem.KeyKind prog w Key where
 is:=zh
 hash:=WF w
 inj:=fun v a b ha hb=>by
   rcases gR ha with ⟨i,t,rfl,rfl⟩|⟨x,t,rfl,rfl⟩
   . rcases gR hb with ⟨j,u,rfl,e⟩|⟨y,u,rfl,e⟩
     . injection e with e1 _;rw [e1]
     . exact nomatch e
   . rcases gR hb with ⟨j,u,rfl,e⟩|⟨y,u,rfl,e⟩
     . exact nomatch e
     . injection e with e1 _;rw [e1]
 byValue:=fun k v h=>by
   rcases gR h with ⟨i,t,rfl,rfl⟩|⟨x,t,rfl,rfl⟩ <;> rfl
 pyHash:=fun hv h=>by
   rcases gR hv with ⟨i,t,rfl,rfl⟩|⟨x,t,rfl,rfl⟩
   . exact wpAny_pyHash_int h
   . exact wpAny_pyHash_str h
 eqBool:=fun hu hv h=>by
   rcases gR hu with ⟨i,t,rfl,rfl⟩|⟨x,t,rfl,rfl⟩
   . rcases gR hv with ⟨j,u,rfl,rfl⟩|⟨y,u,rfl,rfl⟩
     . rw [VA] at h;exact wpAny_eqBool_int h
     . rw [Vu] at h;exact SeqAt.EqAt.int_str i t y u _ _ _ _ h
   . rcases gR hv with ⟨j,u,rfl,rfl⟩|⟨y,u,rfl,rfl⟩
     . rw [Vg] at h;exact SeqAt.EqAt.str_int x t j u _ _ _ _ h
     . rw [Vy] at h;exact wpAny_eqBool_str h
 «strs»:=fun k x t v h=>by
   rcases gR h with ⟨i,u,rfl,e⟩|⟨y,u,rfl,e⟩
   . exact nomatch e
   . injection e with e1 _
     subst e1;cases v <;> rfl
theorem LG (prog:Program) (w:World) (i:Int) (t:Tok):(bz prog w).is (.inl i) (.int i t)=true:=QP i t
theorem Lp (prog:Program) (w:World) (x:Str) (t:Tok):(bz prog w).is (.inr x) (.str x t)=true:=Pp x t
end L2
namespace L2
open PySem PySem.Spec PyProof.Rows
inductive V where
 | non|bl (b:Bool)|int (i:Int)|str (x:Str)|byt (b:Array UInt8)|flt (b:UInt64)|ref (a:Addr)|ty (n:String)
 deriving DecidableEq
def RelV:V->Value->Prop
 | .non,u=>u=Value.none
 | .bl b,u=>u=Value.bool b
 | .int i,u=>∃ t,u=Value.int i t
 | .str x,u=>∃ t,u=Value.str x t
 | .byt b,u=>∃ t,u=Value.bytes b t
 | .flt b,u=>∃ t,u=Value.float b t
 | .ref a,u=>u=Value.ref a
 | .ty n,u=>u=Value.type n
abbrev Vals:List V->List Value->Prop:=Paired RelV
theorem Vals.length {xs:List V} {us:List Value} (r:Vals xs us):xs.length=us.length:=Paired.length r
theorem Vals.get:∀ {xs:List V} {us:List Value} {i:Nat} {x:V},Vals xs us->xs[i]?=some x->∃ u,us[i]?=some u/\RelV x u
 | _,_,_,_,.nil,e=>by simp at e
 | _,_,0,_,.cons r _,e=>by simp at e;subst e;exact ⟨_,rfl,r⟩
 | _,_,i+1,x,.cons _ t,e=>by
   obtain ⟨u,h1,h2⟩:=Vals.get (i:=i) (x:=x) t (by simpa using e);exact ⟨u,by simpa using h1,h2⟩
theorem Vals.set {x:V} {u:Value} (r:RelV x u):∀ {xs:List V} {us:List Value} (i:Nat),Vals xs us->Vals (xs.set i x) (us.set i u)
 | _,_,_,.nil=>.nil
 | _,_,0,.cons _ t=>.cons r t
 | _,_,i+1,.cons q t=>.cons q (Vals.set r i t)
theorem Vals.append:∀ {xs ys:List V} {us ws:List Value},Vals xs us->Vals ys ws->Vals (xs++ys) (us++ws)
 | _,_,_,_,.nil,s=>s
 | _,_,_,_,.cons r t,s=>.cons r (Vals.append t s)
theorem Vals.take:∀ {xs:List V} {us:List Value} (n:Nat),Vals xs us->Vals (xs.take n) (us.take n)
 | _,_,0,_=>.nil
 | _,_,_+1,.nil=>.nil
 | _,_,n+1,.cons r t=>.cons r (Vals.take n t)
theorem Vals.drop:∀ {xs:List V} {us:List Value} (n:Nat),Vals xs us->Vals (xs.drop n) (us.drop n)
 | _,_,0,r=>r
 | _,_,_+1,.nil=>.nil
 | _,_,n+1,.cons _ t=>Vals.drop n t
def RelO:Option V->Option Value->Prop
 | some v,some u=>RelV v u
 | none,none=>True
 | _,_=>False
def KV {κ:Type}:List (κ × V)->List (κ × Value)->Prop:=Paired fun (p:κ × V) (q:κ × Value)=>p.1=q.1/\RelV p.2 q.2
def kV:Key->V
 | .inl i=>.int i
 | .inr x=>.str x
inductive HO where
 /-- a list -/
 | lst (xs:List V)
 /-- a tuple (never changes) -/
 | tup (xs:List V)
 /-- a dict whose keys are ints and texts;one whose keys are tuples of ints and texts (the empty one is both) -/
 | dK (kvs:List (Key × V))|dT (kvs:List (List Key × V))
 /-- a set of ints: its members,its size -/
 | set (S:Int->Bool) (n:Nat)
 /-- an instance of the class at C,its dict at dx,its attributes -/
 | ins (C dx:Addr) (fs:List (Str × V))
 /-- the dict of the instance at x -/
 | own (x:Addr)
 /-- the dict of an exception -/
 | xd (fs:List (Str × V))
 /-- a bound method,f of x -/
 | met (f x:Addr)
 /-- a range object lo,lo+1,.. below hi -/
 | rng (lo hi:Int)
 /-- a thing that is known to the object (the script;a dict while a loop walks it): read,never written while it is so -/
 | frz (o:Obj) (u:HO)
 /-- a code object's table -/
 | tbl (ps:Array Value)
 /-- any other thing,by what is true of its one object (a def of one's own: SetO a S n:=HO.ext fun h=>..) -/
 | ext (φ:Heap->Prop)
abbrev Hp:=Addr->Option HO
def upd (H:Hp) (a:Addr) (o:HO):Hp:=fun b=>if b=a then some o else H b
theorem ao {H:Hp} {a:Addr} {o:HO}:upd H a o a=some o:=by unfold upd;rw [ag rfl]
theorem aX {H:Hp} {a b:Addr} {o:HO} (h:b≠a):upd H a o b=H b:=by unfold upd;rw [aa h]
theorem tJ {H:Hp} {a:Addr} {o u:HO}:upd (upd H a o) a u=upd H a u:=by
 funext b;unfold upd;split <;> rfl
theorem oW {H:Hp} {a b:Addr} {o u:HO} (h:H a=some o) (h':H b=some u) (d:o≠u):a≠b:=by
 intro e;subst e;rw [h] at h';exact d (bi h')
theorem dw {H:Hp} {a b:Addr} {o:HO} (h:H a=some o) (h':H b=none):a≠b:=by
 intro e;subst e;rw [h] at h';cases h'
section
variable (P:Program) (w:World)
def ObjOk (H:Hp) (h:Heap) (a:Addr):HO->Prop
 | .lst xs=>xs.length<=sizeLine/\∃ (its:List Value) (n:Nat),Vals xs its/\h.get? a=some { cls:=.type "list",data:=.seq its.toArray n }
 | .tup xs=>xs.length<=sizeLine/\∃ its:List Value,Vals xs its/\IsTup h a its.toArray
 | .dK kvs=>kvs.length<=sizeLine/\(a == sysModules)=false/\∃ vs,KV kvs vs/\h.DictOf (bz P w) a vs
 | .dT kvs=>kvs.length<=sizeLine/\(a == sysModules)=false/\∃ xs:List (List Key × Addr × Value),
     Paired (fun (p:List Key × V) (q:List Key × Addr × Value)=>p.1=q.1/\H q.2.1=some (.tup (p.1.map kV))/\RelV p.2 q.2.2) kvs xs /\
     ∃ o es ep,h.get? a=some o/\o.ExactDict/\o.data=.dict es ep/\es.toList=xs.map (entryOfKey (tupleKind (bz P w)))/\(xs.map (·.1)).Nodup
 | .set S n=>h.SetOf (intKind P w) a S n
 | .ins C dx fs=>H dx=some (.own a)/\fs.length<=1000/\dx≠a/\h.get? a=some (PySem.W.instObj C dx) /\
     ∃ mA,h.Ns1 dx mA/\(∀ f,RelO (fs.lookup f) (mA f))/\PySem.Within mA (fs.map (·.1))
 | .own _=>∃ o,h.get? a=some o
 | .xd fs=>∃ mA,h.Ns1 a mA/\∀ f,RelO (fs.lookup f) (mA f)
 | .rng lo hi=>∃ t u v,h.get? a=some { cls:=.type "range",data:=.fields #[.int lo t,.int hi u,.int 1 v] }
 | .frz o u=>h.get? a=some o/\ObjOk H h a u
 | .tbl ps=>h.get? a=some { cls:=.none,data:=.fields ps }
 | .met f x=>h.get? a=some (PySem.W.methodObj (.ref f) (.ref x))
 | .ext φ=>φ h/\(∃ o,h.get? a=some o)/\∀ h1 h2:Heap,φ h1->(∀ o,h1.get? a=some o->h2.get? a=some o)->φ h2
def HOk (H:Hp) (h:Heap):Prop:=∀ a o,H a=some o->ObjOk P w H h a o
end
section
variable {P:Program} {w:World} {H H':Hp} {h h':Heap} {a:Addr} {o:HO}
theorem ObjOk.lt (x:ObjOk P w H h a o):a<h.objs.size:=by
 cases o with
 | lst xs=>obtain ⟨_,_,_,_,e⟩:=x;exact aG e
 | tup xs=>obtain ⟨_,_,_,p⟩:=x;exact p.lt
 | dK kvs=>obtain ⟨_,_,_,_,o,_,_,e,_⟩:=x;exact aG e
 | dT kvs=>obtain ⟨_,_,_,_,o,_,_,e,_⟩:=x;exact aG e
 | set S n=>obtain ⟨o,_,_,_,e,_⟩:=x;exact aG e
 | ins C dx fs=>obtain ⟨_,_,_,e,_⟩:=x;exact aG e
 | own y=>obtain ⟨_,e⟩:=x;exact aG e
 | xd fs=>obtain ⟨_,⟨_,_,_,e,_⟩,_⟩:=x;exact aG e
 | rng lo hi=>obtain ⟨_,_,_,e⟩:=x;exact aG e
 | frz ob u=>obtain ⟨e,_⟩:=x;exact aG e
 | tbl ps=>exact aG (show h.get? a=some _ from x)
 | met f y=>exact aG (show h.get? a=some _ from x)
 | ext φ=>obtain ⟨_,⟨_,e⟩,_⟩:=x;exact aG e
theorem Paired.mapP {α β:Type} {F G:α->β->Prop}:∀ {l₁:List α} {l₂:List β},Paired F l₁ l₂->(∀ a b,F a b->G a b)->Paired G l₁ l₂
 | _,_,.nil,_=>.nil
 | _,_,.cons r t,f=>.cons (f _ _ r) (Paired.mapP t f)
theorem Paired.imp' {α β:Type} {F G:α->β->Prop} (f:∀ a b,F a b->G a b) {l₁:List α} {l₂:List β} (r:Paired F l₁ l₂):Paired G l₁ l₂:=Paired.mapP r f
theorem ObjOk.stay (x:ObjOk P w H h a o) (k:∀ b u,(b=a\/H b=some (.own a))->h.get? b=some u->h'.get? b=some u)
   (ho:∀ b,H b=some (.own a)->H' b=some (.own a)) (ht:∀ b xs,H b=some (.tup xs)->H' b=some (.tup xs)):ObjOk P w H' h' a o:=by
 induction o with
 | lst xs=>obtain ⟨z,its,n,r,e⟩:=x;exact ⟨z,its,n,r,k _ _ (.inl rfl) e⟩
 | tup xs=>obtain ⟨z,its,r,ob,e,c⟩:=x;exact ⟨z,its,r,ob,k _ _ (.inl rfl) e,c⟩
 | dK kvs=>obtain ⟨z,y,vs,r,ob,es,ep,e,c⟩:=x;exact ⟨z,y,vs,r,ob,es,ep,k _ _ (.inl rfl) e,c⟩
 | dT kvs =>
   obtain ⟨z,y,xs,r,ob,es,ep,e,c⟩:=x;exact ⟨z,y,xs,Paired.mapP r fun p q z=>⟨z.1,ht _ _ z.2.1,z.2.2⟩,ob,es,ep,k _ _ (.inl rfl) e,c⟩
 | set S n=>obtain ⟨ob,es,ep,t,e,c⟩:=x;exact ⟨ob,es,ep,t,k _ _ (.inl rfl) e,c⟩
 | ins C dx fs =>
   obtain ⟨d,z,ne,e,mA,⟨od,es,ep,e2,c⟩,r⟩:=x;exact ⟨ho _ d,z,ne,k _ _ (.inl rfl) e,mA,⟨od,es,ep,k _ _ (.inr d) e2,c⟩,r⟩
 | own y=>obtain ⟨ob,e⟩:=x;exact ⟨ob,k _ _ (.inl rfl) e⟩
 | xd fs=>obtain ⟨mA,⟨od,es,ep,e,c⟩,r⟩:=x;exact ⟨mA,⟨od,es,ep,k _ _ (.inl rfl) e,c⟩,r⟩
 | rng lo hi=>obtain ⟨t,u,v,e⟩:=x;exact ⟨t,u,v,k _ _ (.inl rfl) e⟩
 | frz ob u ih=>obtain ⟨e,q⟩:=x;exact ⟨k _ _ (.inl rfl) e,ih q⟩
 | tbl ps =>
   have e:h.get? a=some { cls:=.none,data:=.fields ps }:=x;show h'.get? a=some { cls:=.none,data:=.fields ps };exact k a _ (.inl rfl) e
 | met f y =>
   have e:h.get? a=some (PySem.W.methodObj (.ref f) (.ref y)):=x;show h'.get? a=some (PySem.W.methodObj (.ref f) (.ref y));exact k a _ (.inl rfl) e
 | ext φ=>obtain ⟨p,⟨o,e⟩,st⟩:=x;exact ⟨st _ _ p fun o q=>k _ _ (.inl rfl) q,⟨o,k _ _ (.inl rfl) e⟩,st⟩
theorem HOk.lt (x:HOk P w H h) (e:H a=some o):a<h.objs.size:=(x a o e).lt
theorem HOk.fresh (x:HOk P w H h) (e:h.objs.size<=a):H a=none:=by
 cases q:H a with
 | none=>rfl
 | some u=>exact absurd (aR (x.lt q) e) (dy _)
theorem HOk.kept (x:HOk P w H h) (k:∀ b u,h.get? b=some u->h'.get? b=some u):HOk P w H h':=fun a o e =>
 (x a o e).stay (fun b u _ q=>k b u q) (fun _ q=>q) fun _ _ q=>q
theorem HOk.laid (x:HOk P w H h) (k:∀ b u,h.get? b=some u->h'.get? b=some u) (hp:h.objs.size<=a) (new:ObjOk P w (upd H a o) h' a o):HOk P w (upd H a o) h':=fun b u e=>by
 have hn:=x.fresh hp;by_cases hb:b=a
 . subst hb;rw [ao] at e;cases e;exact new
 . rw [aX hb] at e;exact (x b u e).stay (fun c v _ q=>k c v q) (fun c q=>by rw [aX (dw q hn)];exact q) fun c xs q=>by rw [aX (dw q hn)];exact q
end
def Rd (H:Hp) (a:Addr) (u:HO):Prop:=H a=some u\/∃ o,H a=some (.frz o u)
theorem Rd.ok {P:Program} {w:World} {H:Hp} {h:Heap} {a:Addr} {u:HO} (r:Rd H a u) (x:HOk P w H h):ObjOk P w H h a u:=by
 rcases r with r|⟨o,r⟩
 . exact x a u r
 . obtain ⟨_,q⟩:=x a _ r;exact q
def Mut:Option HO->Prop
 | some (.lst _)=>True
 | some (.dK _)=>True
 | some (.dT _)=>True
 | some (.set _ _)=>True
 | some (.ins _ _ _)=>True
 | some (.ext _)=>True
 | _=>False
section
variable {P:Program} {w:World} {H:Hp} {h h':Heap} {x e:Addr} {o':HO}
theorem HOk.write (ok:HOk P w H h) (mu:Mut (H x)) (he:e=x\/H e=some (.own x)) (k:∀ b u,b≠e->h.get? b=some u->h'.get? b=some u) (heo:∃ u,h'.get? e=some u)
   (new:ObjOk P w (upd H x o') h' x o'):HOk P w (upd H x o') h':=fun b u q=>by
 have nown:∀ c y,H c=some (.own y)->c≠x:=fun c y r z=>by subst z;rw [r] at mu;exact mu
 have ntup:∀ c xs,H c=some (.tup xs)->c≠x:=fun c xs r z=>by subst z;rw [r] at mu;exact mu
 by_cases hb:b=x
 . subst hb;rw [ao] at q;cases q;exact new
 . rw [aX hb] at q;by_cases hbe:b=e
   . have q':H b=some (.own x):=by
       rcases he with z|z
       . exact absurd (hbe.trans z) hb
       . rw [hbe];exact z
     rw [q] at q';cases q';obtain ⟨v,hv⟩:=heo;exact ⟨v,by rw [hbe];exact hv⟩
   . refine (ok b u q).stay (fun c v hc r=>k c v ?_ r) (fun c r=>by rw [aX (nown c b r)];exact r) fun c xs r=>by rw [aX (ntup c xs r)];exact r
     rcases hc with rfl|hc
     . exact hbe
     . rintro rfl;rcases he with z|z
       . exact nown c b hc z
       . rw [hc] at z;cases z;exact hb rfl
end
structure Un (fs ex:List Addr) (H H':Hp) (h h':Heap):Prop where
 keep:∀ b o,h.get? b=some o->H b=none->b ∉ fs->b ∉ ex->h'.get? b=some o
 slot:∀ b o,h.get? b=some o->H b=none->b∈fs->b ∉ ex->∃ sl,h'.get? b=some { o with slots:=sl }
 free:∀ b o,h.get? b=some o->H b=none->b ∉ ex->H' b=none
 there:∀ b o,h.get? b=some o->b ∉ ex->∃ o',h'.get? b=some o'
 tups:∀ b xs,H b=some (.tup xs)->H' b=some (.tup xs)
 frzs:∀ b o u,H b=some (.frz o u)->H' b=some (.frz o u)
 tbls:∀ b ps,H b=some (.tbl ps)->∃ more,H' b=some (.tbl (ps++more))
section
variable {fs fs' ex ex':List Addr} {H H1 H2:Hp} {h h1 h2 h':Heap} {a x e:Addr} {o:HO}
theorem Un.any (u:Un fs ex H H1 h h1) {b:Addr} {ob:Obj} (q:h.get? b=some ob) (n:H b=none) (hx:b ∉ ex):∃ sl,h1.get? b=some { ob with slots:=sl }:=by
 by_cases hb:b∈fs
 . exact u.slot b ob q n hb hx
 . exact ⟨ob.slots,u.keep b ob q n hb hx⟩
theorem Un.kept (k:∀ b u,h.get? b=some u->h'.get? b=some u):Un fs ex H H h h' :=
 ⟨fun b ob q _ _ _=>k b ob q,fun b ob q _ _ _=>⟨ob.slots,k b ob q⟩,fun _ _ _ n _=>n,fun b ob q _=>⟨ob,k b ob q⟩,fun _ _ q=>q,fun _ _ _ q=>q,fun _ ps q=>⟨#[],by rw [q];simp⟩⟩
theorem Un.refl:Un fs ex H H h h:=Un.kept fun _ _ q=>q
theorem Un.laid (k:∀ b u,h.get? b=some u->h'.get? b=some u) (hp:h.objs.size<=a) (hn:H a=none):Un fs ex H (upd H a o) h h' where
 keep:=fun b u q _ _ _=>k b u q
 slot:=fun b u q _ _ _=>⟨u.slots,k b u q⟩
 free:=fun b u q n _=>by rw [aX (aO (aR (aG q) hp))];exact n
 there:=fun b u q _=>⟨u,k b u q⟩
 tups:=fun b xs q=>by rw [aX (dw q hn)];exact q
 frzs:=fun b u xs q=>by rw [aX (dw q hn)];exact q
 tbls:=fun b ps q=>⟨#[],by rw [aX (dw q hn),q];simp⟩
theorem Un.write (mu:Mut (H x)) (he:e=x\/H e=some (.own x)) (k:∀ b u,b≠e->h.get? b=some u->h'.get? b=some u) (heo:∃ u,h'.get? e=some u):Un fs ex H (upd H x o) h h':=by
 have hx:∀ b,H b=none->b≠x:=fun b n z=>by subst z;rw [n] at mu;exact mu
 have hb:∀ b,H b=none->b≠e:=fun b n z=>by
   subst z;rcases he with r|r
   . exact hx b n r
   . rw [n] at r;cases r
 have hm:∀ b u,H b=some u->¬ Mut (some u)->b≠x:=fun b u q nm z=>by subst z;rw [q] at mu;exact nm mu
 refine ⟨fun b u q n _ _=>k b u (hb b n) q,fun b u q n _ _=>⟨u.slots,k b u (hb b n) q⟩,fun b u q n _=>by rw [aX (hx b n)];exact n,fun b u q _=>?_,
   fun b xs q=>by rw [aX (hm b _ q fun z=>z)];exact q,fun b u xs q=>by rw [aX (hm b _ q fun z=>z)];exact q,fun b ps q=>⟨#[],by rw [aX (hm b _ q fun z=>z),q];simp⟩⟩
 by_cases hbe:b=e
 . subst hbe;exact heo
 . exact ⟨u,k b u hbe q⟩
end
def trk (h:Heap) (H:Hp):List Addr:=(List.range h.objs.size).filter fun a=>(H a).isSome
def za (h:Heap) (H:Hp):Heap:=PySem.W.hideAll h (trk h H)
theorem Ps (h:Heap) (H:Hp):(za h H).objs.size=h.objs.size:=PySem.W.hideAll_size _ _
theorem S7 {h:Heap} {H:Hp} {b:Addr} {o:Obj} (e:h.get? b=some o) (n:H b=none):(za h H).get? b=some o :=
 PySem.W.hideAll_get _ e fun hm=>by
   have q:(H b).isSome=true:=(bG.mp hm).2;rw [n] at q;simp at q
theorem U6 {h:Heap} {H:Hp} {b:Addr} {o:Obj} (e:(za h H).get? b=some o):h.get? b=some o/\H b=none:=by
 have e':h.get? b=some o:=PySem.W.of_hideAll (trk h H) e;refine ⟨e',?_⟩;cases q:H b with
 | none=>rfl
 | some x =>
   have hm:b∈trk h H:=bG.mpr ⟨bD.mpr (aG e'),by simp [q]⟩;have z:(za h H).get? b=none:=PySem.W.hideAll_none (trk h H) hm;rw [z] at e;cases e
def Uy (g h:Heap) (L:Addr):List (Addr × Obj):=(List.range h.objs.size).filterMap fun a=>if a=L\/(g.get? a).isSome=true then none else (h.get? a).map fun o=>(a,o)
def jT (g h:Heap) (L d:Addr):List (Addr × Obj):=(Uy g h L).filter fun p=>decide (p.1≠d)
end L2
namespace L2
open PySem PySem.Spec PyProof.Rows
structure Mod (K:PySem.W.Frag) (mg:Str->Option Value) (base:Heap):Prop where
 kin:K.In base
 glob:base.Ns mainGlobals mg
 blt:∃ mb,base.Ns builtinsNs mb/\∀ x:Str,x≠"__name__"->mb x=bootBuiltins x
 nolimit:base.NoLimit
structure Cx where
 prog:Program
 w:World
 K:PySem.W.Frag
 mg:Str->Option Value
 base:Heap
 A:Around
 N:List Str
 s₀:Shared
 H₀:Hp
 env:Env
 outer:List Env
 stack:List Env
 ex:List Addr
 fn:Str->Bool
 calm:Bool
 pn:List (Addr × Obj)
 xe:Value->Shared->Prop
def frs (l:List Env):List Addr:=l.filterMap (·.frame)
abbrev Cx.fs (X:Cx):List Addr:=frs X.outer
def Vis (sc:Scope) (x:Str):Prop:=sc.names.lookup x=some .local\/sc.names.lookup x=some .cell\/sc.names.lookup x=some .free
def Loc (sc:Scope) (x:Str):Prop:=sc.names.lookup x=some .local\/sc.names.lookup x=some .cell
def WL (env:Env) (h:Heap) (m:Str->Option Value) (x:Str) (u:Value):Prop :=
 (env.kindOf x=some .local/\m x=some u)\/((env.kindOf x=some .cell\/env.kindOf x=some .free)/\∃ c,env.cells.lookup x=some c/\h.IsCell c (some u))
structure Cx.Ok (X:Cx):Prop where
 mod:Mod X.K X.mg X.base
 kind:X.env.scope.kind=.function
 glob:X.env.globals=mainGlobals
 blt:X.env.builtins=builtinsNs
 above:X.s₀.heap.objs.size<=X.env.locals
 inj:∀ x y c,X.env.cells.lookup x=some c->X.env.cells.lookup y=some c->x=y
 has:∀ x,(X.env.kindOf x=some .cell\/X.env.kindOf x=some .free)->∃ c,X.env.cells.lookup x=some c
 cab:∀ x c,X.fn x=true->X.env.cells.lookup x=some c->X.s₀.heap.objs.size<=c
 hd:X.calm=true->X.A.handled=none
 frames:X.A.frames=some X.stack
 stk:X.stack=X.outer\/(X.stack=X.env::X.outer/\X.env.frame=some X.env.locals)
 exf:∀ b∈X.ex,b≠X.env.locals/\∀ x c,X.env.cells.lookup x=some c->c≠b
 bs:∀ b o,X.base.get? b=some o->X.s₀.heap.get? b=some o/\X.H₀ b=none
 bsz:X.base.objs.size<=X.s₀.heap.objs.size
 noex:∀ b o,X.base.get? b=some o->b ∉ X.ex
 exfs:∀ b∈X.ex,b ∉ X.fs
 funs:X.s₀.heap.FunFrames X.base X.outer
 frf:∀ b∈X.fs,X.H₀ b=none
structure Inv (X:Cx) (pins:List (Addr × Obj)) (σ:List (Option V)) (H:Hp) (s:Shared):Prop where
 ok:X.Ok
 os:s.os=X.s₀.os
 bare:AllBare s.gens
 base:Un X.fs X.ex X.H₀ H X.s₀.heap s.heap
 loc:∃ m,s.heap.Ns X.env.locals m/\∀ (i:Nat) (x:Str) (v:V),X.N[i]?=some x->σ[i]?=some (some v)->Vis X.env.scope x->∃ u,RelV v u/\WL X.env s.heap m x u
 cell:∀ x c,X.env.cells.lookup x=some c->∃ v,s.heap.IsCell c v
 free:H X.env.locals=none
 freeC:∀ x c,X.env.cells.lookup x=some c->H c=none
 pin:∀ p∈X.pn++pins,s.heap.get? p.1=some p.2/\H p.1=none/\p.1≠X.env.locals/\p.1 ∉ X.fs/\∀ v,p.2.data≠.cell v
 hok:HOk X.prog X.w H s.heap
 len:σ.length=X.N.length
section
variable {X:Cx} {pins:List (Addr × Obj)} {σ:List (Option V)} {H H':Hp} {s:Shared} {h':Heap}
theorem Cx.Ok.nofr (ok:X.Ok) {b:Addr} {o:Obj} (e:X.base.get? b=some o):b ∉ X.fs:=fun hb=>by
 have:=(ok.funs.mem hb).1;rw [e] at this;cases this
theorem Inv.bs (I:Inv X pins σ H s):∀ b o,X.base.get? b=some o->s.heap.get? b=some o/\H b=none:=fun b o e =>
 ⟨I.base.keep b o (I.ok.bs b o e).1 (I.ok.bs b o e).2 (I.ok.nofr e) (I.ok.noex b o e),I.base.free b o (I.ok.bs b o e).1 (I.ok.bs b o e).2 (I.ok.noex b o e)⟩
theorem Inv.bk (I:Inv X pins σ H s):∀ b o,X.base.get? b=some o->s.heap.get? b=some o:=fun b o e=>(I.bs b o e).1
theorem Inv.mod (I:Inv X pins σ H s):Mod X.K X.mg X.base:=I.ok.mod
theorem Inv.kIn (I:Inv X pins σ H s):X.K.In s.heap:=I.ok.mod.kin.keeps I.bk
theorem Inv.lt (I:Inv X pins σ H s):X.env.locals<s.heap.objs.size:=let ⟨_,hn,_⟩:=I.loc;hn.lt
theorem Inv.sz (I:Inv X pins σ H s):X.s₀.heap.objs.size<=s.heap.objs.size:=bq I.ok.above (kb I.lt)
theorem Inv.nofs (I:Inv X pins σ H s) {a:Addr} (h:s.heap.objs.size<=a):a ∉ X.fs:=fun hb=>by
 obtain ⟨_,o,ho,_⟩:=I.ok.funs.mem hb;exact absurd (aR (aG ho) (bq I.sz h)) (dy _)
theorem Inv.cne (I:Inv X pins σ H s):∀ x c,X.env.cells.lookup x=some c->c≠X.env.locals:=fun x c e z=>by
 obtain ⟨v,o,ho,hd⟩:=I.cell x c e;obtain ⟨m,⟨o',es,ep,ho',hd',_⟩,_⟩:=I.loc;rw [z,ho'] at ho;cases ho;rw [hd'] at hd;cases hd
theorem Inv.funs (I:Inv X pins σ H s):s.heap.FunFrames X.base X.outer:=by
 have all:∀ (l:List Env),(∀ b∈frs l,b∈X.fs)->X.s₀.heap.FunFrames X.base l->s.heap.FunFrames X.base l:=by
   intro l
   induction l with
   | nil=>intro _ _;trivial
   | cons env r ih =>
     intro hs hl;obtain ⟨hk,⟨L,o,hf,hn,ho,hd⟩,hr⟩:=hl;have hL:L∈X.fs:=hs L (by unfold frs;rw [bZ,hf];exact aw);obtain ⟨sl,e⟩:=I.base.slot L o ho (I.ok.frf L hL) hL fun z=>I.ok.exfs L z hL;exact ⟨hk,⟨L,_,hf,hn,e,hd⟩,ih (fun b hb=>hs b (by unfold frs;rw [bZ,hf];exact ak _ hb)) hr⟩
 exact all X.outer (fun _ hb=>hb) I.ok.funs
theorem Inv.stack (I:Inv X pins σ H s):s.heap.FunFrames X.base X.stack:=by
 rcases I.ok.stk with e|⟨e,hf⟩
 . rw [e];exact I.funs
 . rw [e];obtain ⟨m,hn,_⟩:=I.loc;refine .cons (by rw [I.ok.kind];decide) hf hn ?_ I.funs;exact Heap.get?_none_of_le (bq I.ok.bsz I.ok.above)
theorem Inv.stkSub (I:Inv X pins σ H s):∀ b∈frs X.stack,b∈X.env.locals::X.fs:=fun b hb=>by
 rcases I.ok.stk with e|⟨e,hf⟩
 . rw [e] at hb;exact ak _ hb
 . rw [e] at hb;unfold frs at hb;rw [bZ,hf] at hb;exact hb
theorem Inv.stkFree (I:Inv X pins σ H s):∀ b∈frs X.stack,H b=none:=fun b hb=>by
 rcases az.mp (I.stkSub b hb) with e|hb
 . rw [e];exact I.free
 . obtain ⟨_,o,ho,_⟩:=I.ok.funs.mem hb;exact I.base.free b o ho (I.ok.frf b hb) fun z=>I.ok.exfs b z hb
theorem Inv.step {g':Array GenState} {t':Nat} {d':Drawn} {ch:List Addr} (I:Inv X pins σ H s)
   (hch:∀ b∈ch,(b∈X.ex\/X.s₀.heap.objs.size<=b)/\b≠X.env.locals/\(∀ x c,X.env.cells.lookup x=some c->c≠b)/\∀ p∈X.pn++pins,p.1≠b)
   (keep:∀ b o,b≠X.env.locals->b ∉ X.fs->b ∉ ch->s.heap.get? b=some o->H b=none->h'.get? b=some o)
   (slot:∀ b o,b≠X.env.locals->b∈X.fs->b ∉ ch->s.heap.get? b=some o->H b=none->∃ sl,h'.get? b=some { o with slots:=sl }) (free:∀ b o,b ∉ ch->s.heap.get? b=some o->H b=none->H' b=none)
   (there:∀ b o,b ∉ ch->s.heap.get? b=some o->∃ o',h'.get? b=some o')
   (tups:∀ b xs,H b=some (.tup xs)->H' b=some (.tup xs)) (frzs:∀ b o u,H b=some (.frz o u)->H' b=some (.frz o u)) (tbls:∀ b ps,H b=some (.tbl ps)->∃ more,H' b=some (.tbl (ps++more)))
   (ns:∀ m,s.heap.Ns X.env.locals m->h'.Ns X.env.locals m) (hok:HOk X.prog X.w H' h') (hg:AllBare g') :
   Inv X pins σ H' { s with heap:=h',gens:=g',drawn:=d',toks:=t' }:=by
 have neL:∀ b o,X.s₀.heap.get? b=some o->b≠X.env.locals:=fun b o e=>aO (aR (aG e) I.ok.above);have neC:∀ b o,X.s₀.heap.get? b=some o->b ∉ X.ex->b ∉ ch:=fun b o e hx hb=>by
   rcases (hch b hb).1 with z|z
   . exact hx z
   . exact absurd (aR (aG e) z) (dy _)
 have cellK:∀ x c,X.env.cells.lookup x=some c->∀ v,s.heap.IsCell c v->h'.IsCell c v:=fun x c e v ⟨o,ho,hd⟩=>by
   have nch:c ∉ ch:=fun z=>(hch c z).2.2.1 x c e rfl;by_cases hc:c∈X.fs
   . obtain ⟨sl,q⟩:=slot c o (I.cne x c e) hc nch ho (I.freeC x c e);exact ⟨_,q,hd⟩
   . exact ⟨o,keep c o (I.cne x c e) hc nch ho (I.freeC x c e),hd⟩
 refine ⟨I.ok,I.os,hg,⟨fun b o e n hb hx=>?_,fun b o e n hb hx=>?_,fun b o e n hx=>?_,fun b o e hx=>?_,fun b xs e=>tups b xs (I.base.tups b xs e),fun b o xs e=>frzs b o xs (I.base.frzs b o xs e),fun b ps e=>?_⟩,?_,fun x c e=>?_,?_,fun x c e=>?_,fun p hp=>?_,hok,I.len⟩
 . exact keep b o (neL b o e) hb (neC b o e hx) (I.base.keep b o e n hb hx) (I.base.free b o e n hx)
 . obtain ⟨sl,e1⟩:=I.base.slot b o e n hb hx;obtain ⟨sl',e2⟩:=slot b _ (neL b o e) hb (neC b o e hx) e1 (I.base.free b o e n hx);exact ⟨sl',e2⟩
 . obtain ⟨o',e1⟩:=I.base.there b o e hx;exact free b o' (neC b o e hx) e1 (I.base.free b o e n hx)
 . obtain ⟨o',e1⟩:=I.base.there b o e hx;exact there b o' (neC b o e hx) e1
 . obtain ⟨m1,e1⟩:=I.base.tbls b ps e;obtain ⟨m2,e2⟩:=tbls b _ e1;exact ⟨m1++m2,by rw [e2,Array.append_assoc]⟩
 . obtain ⟨m,hn,hl⟩:=I.loc;refine ⟨m,ns m hn,fun i x v e1 e2 e3=>?_⟩;obtain ⟨u,r,l⟩:=hl i x v e1 e2 e3;refine ⟨u,r,?_⟩;rcases l with l|⟨k,c,e,z⟩
   . exact .inl l
   . exact .inr ⟨k,c,e,cellK x c e _ z⟩
 . obtain ⟨v,z⟩:=I.cell x c e;exact ⟨v,cellK x c e v z⟩
 . obtain ⟨m,⟨o,_,_,ho,_⟩,_⟩:=I.loc;exact free _ o (fun z=>(hch _ z).2.1 rfl) ho I.free
 . obtain ⟨v,o,ho,hd⟩:=I.cell x c e;exact free c o (fun z=>(hch c z).2.2.1 x c e rfl) ho (I.freeC x c e)
 . obtain ⟨e,n,ne,nf,d⟩:=I.pin p hp;have nch:p.1 ∉ ch:=fun z=>(hch p.1 z).2.2.2 p hp rfl;exact ⟨keep p.1 p.2 ne nf nch e n,free p.1 p.2 nch e n,ne,nf,d⟩
theorem Inv.un {t':Nat} (I:Inv X pins σ H s) (u:Un X.fs [] H H' s.heap h') (hok:HOk X.prog X.w H' h'):Inv X pins σ H' { s with heap:=h',toks:=t' }:=by
 obtain ⟨m,⟨o,es,ep,ho,r⟩,_⟩:=id I.loc;obtain ⟨sl,hL⟩:=u.any ho I.free (by simp);exact I.step (g':=s.gens) (d':=s.drawn) (ch:=[]) (fun _ z=>nomatch z) (fun b o _ hb _ e n=>u.keep b o e n hb (by simp)) (fun b o _ hb _ e n=>u.slot b o e n hb (by simp)) (fun b o _ e n=>u.free b o e n (by simp)) (fun b o _ e=>u.there b o e (by simp)) u.tups u.frzs u.tbls (fun m' hm=>by
   obtain ⟨o',es',ep',ho',r'⟩:=hm;rw [ho] at ho';cases ho';exact ⟨_,es',ep',hL,r'⟩) hok I.bare
theorem Inv.call {g':Array GenState} {t':Nat} {d':Drawn} {ch:List Addr} (I:Inv X pins σ H s) (u:Un (frs X.stack) ch H H' s.heap h') (hok:HOk X.prog X.w H' h') (hg:AllBare g')
   (hch:∀ b∈ch,(b∈X.ex\/X.s₀.heap.objs.size<=b)/\b≠X.env.locals/\(∀ x c,X.env.cells.lookup x=some c->c≠b)/\∀ p∈X.pn++pins,p.1≠b) :
   Inv X pins σ H' { s with heap:=h',gens:=g',drawn:=d',toks:=t' }:=by
 obtain ⟨m,⟨o,es,ep,ho,r⟩,_⟩:=id I.loc;obtain ⟨sl,hL⟩:=u.any ho I.free fun z=>(hch _ z).2.1 rfl;exact I.step (ch:=ch) hch (fun b o hL hb hc e n=>u.keep b o e n (fun z=>(az.mp (I.stkSub b z)).elim hL hb) hc) (fun b o _ _ hc e n=>u.any e n hc) (fun b o hc e n=>u.free b o e n hc) (fun b o hc e=>u.there b o e hc) u.tups u.frzs u.tbls (fun m' hm=>by
   obtain ⟨o',es',ep',ho',r'⟩:=hm;rw [ho] at ho';cases ho';exact ⟨_,es',ep',hL,r'⟩) hok hg
theorem Inv.turned {t':Nat} {it:Addr} (I:Inv X pins σ H s) (k:∀ b o,b≠it->s.heap.get? b=some o->h'.get? b=some o) (hn:H it=none) (hL:it≠X.env.locals)
   (h1:it∈X.ex\/X.s₀.heap.objs.size<=it) (h2:∀ x c,X.env.cells.lookup x=some c->c≠it) (h3:∀ p∈X.pn++pins,p.1≠it):Inv X pins σ H { s with heap:=h',toks:=t' }:=by
 have nit:∀ b u,H b=some u->b≠it:=fun b u e z=>by rw [z,hn] at e;cases e
 refine I.step (g':=s.gens) (d':=s.drawn) (ch:=[it]) (fun b hb=>?_) (fun b o _ _ hc e _=>k b o (fun z=>hc (by simp [z])) e) (fun b o _ _ hc e _=>⟨o.slots,k b o (fun z=>hc (by simp [z])) e⟩) (fun _ _ _ _ n=>n)
   (fun b o hc e=>⟨o,k b o (fun z=>hc (by simp [z])) e⟩) (fun _ _ e=>e) (fun _ _ _ e=>e) (fun b ps e=>⟨#[],by rw [e];simp⟩) (fun m hm=>?_) (fun b u e=>?_) I.bare
 . have e:b=it:=by simpa using hb
   subst e;exact ⟨h1,hL,h2,h3⟩
 . obtain ⟨o,es,ep,ho,r⟩:=hm;exact ⟨o,es,ep,k _ o (Ne.symm hL) ho,r⟩
 . refine (I.hok b u e).stay (fun c v hc q=>k c v ?_ q) (fun _ q=>q) fun _ _ q=>q;rcases hc with z|z
   . rw [z];exact nit b u e
   . exact nit c _ z
theorem Inv.tok (I:Inv X pins σ H s) (t:Nat):Inv X pins σ H { s with toks:=t }:=I.un (h':=s.heap) (t':=t) Un.refl I.hok
theorem Inv.kept {t':Nat} (I:Inv X pins σ H s) (k:∀ b u,s.heap.get? b=some u->h'.get? b=some u):Inv X pins σ H { s with heap:=h',toks:=t' }:=I.un (Un.kept k) (I.hok.kept k)
theorem Inv.laid {a:Addr} {o:HO} {t':Nat} (I:Inv X pins σ H s) (k:∀ b u,s.heap.get? b=some u->h'.get? b=some u) (hp:s.heap.objs.size<=a) (new:ObjOk X.prog X.w (upd H a o) h' a o) :
   Inv X pins σ (upd H a o) { s with heap:=h',toks:=t' }:=I.un (Un.laid k hp (I.hok.fresh hp)) (I.hok.laid k hp new)
theorem Inv.write {x e:Addr} {o:HO} {t':Nat} (I:Inv X pins σ H s) (mu:Mut (H x)) (he:e=x\/H e=some (.own x)) (k:∀ b u,b≠e->s.heap.get? b=some u->h'.get? b=some u) (heo:∃ u,h'.get? e=some u)
   (new:ObjOk X.prog X.w (upd H x o) h' x o):Inv X pins σ (upd H x o) { s with heap:=h',toks:=t' }:=I.un (Un.write mu he k heo) (I.hok.write mu he k heo new)
theorem Inv.pins_of {pins':List (Addr × Obj)} (I:Inv X pins σ H s) (h:∀ p∈pins',s.heap.get? p.1=some p.2/\H p.1=none/\p.1≠X.env.locals/\p.1 ∉ X.fs/\∀ v,p.2.data≠.cell v):Inv X pins' σ H s :=
 ⟨I.ok,I.os,I.bare,I.base,I.loc,I.cell,I.free,I.freeC,fun p hp=>(aQ.mp hp).elim (fun z=>I.pin p (a9 _ z)) (h p),I.hok,I.len⟩
theorem Kl {N:List Str} (hN:N.Nodup) {i j:Nat} {x:Str} (a:N[i]?=some x) (b:N[j]?=some x):i=j:=by
 obtain ⟨h1,e1⟩:=aq.mp a;obtain ⟨h2,e2⟩:=aq.mp b;exact (List.getElem_inj hN).mp (e1.trans e2.symm)
theorem GW {M:Model} {A:Around} {E:Value->Shared->Prop} {i:Nat} {x:Str} {v:V} {u:Value} {Q:Unit->Shared->Prop} (I:Inv X pins σ H s) (hN:X.N.Nodup) (hi:X.N[i]?=some x) (hx:Loc X.env.scope x) (r:RelV v u)
   (h:∀ s',Inv X pins (σ.set i (some v)) H s'->(∃ a,Heap.SameBut a s.heap s'.heap/\(a=X.env.locals\/X.env.cells.lookup x=some a))->Q () s') (hf:X.fn x=true\/X.env.scope.names.lookup x=some .local:=by first|exact .inl rfl|exact .inr rfl|assumption):wpAny M A (storeName X.env x u) Q E s:=by
 obtain ⟨m,hn,hl⟩:=id I.loc;have hcls:(X.env.scope.kind == .class || (X.env.scope.kind == .module && X.env.locals != X.env.globals))=false:=by rw [I.ok.kind];rfl
 have hiσ:i<σ.length:=by rw [I.len];exact (aq.mp hi).1
 have cne:=I.cne;have tracked:∀ {a:Addr} {h':Heap},(∃ o,s.heap.get? a=some o/\H a=none)->Heap.SameBut a s.heap h'->HOk X.prog X.w H h':=fun {a h'} ha hs b ob e=>by
   obtain ⟨_,_,hfree⟩:=ha;refine (I.hok b ob e).stay (fun c w' hc q=>(hs.2 c ?_).trans q) (fun _ q=>q) fun _ _ q=>q;rintro rfl;rcases hc with rfl|hc
   . rw [hfree] at e;cases e
   . rw [hfree] at hc;cases hc
 rcases hx with hk|hk
 . refine wpAny_storeName_local hk hn (fun h' hn' hs=>?_) hcls;obtain ⟨oL,_,_,hoL,_⟩:=id hn;refine h _ ⟨I.ok,I.os,I.bare,⟨fun b o e n hb hx=>?_,fun b o e n hb hx=>?_,I.base.free,fun b o e hx=>?_,I.base.tups,I.base.frzs,I.base.tbls⟩,⟨_,hn',fun j y v' e1 e2 e3=>?_⟩,fun y c e=>?_,I.free,I.freeC,fun p hp=>?_,tracked ⟨oL,hoL,I.free⟩ hs,by simpa using I.len⟩ ⟨_,hs,.inl rfl⟩
   . exact (hs.2 b (aO (aR (aG e) I.ok.above))).trans (I.base.keep b o e n hb hx)
   . obtain ⟨sl,e1⟩:=I.base.slot b o e n hb hx;exact ⟨sl,(hs.2 b (aO (aR (aG e) I.ok.above))).trans e1⟩
   . obtain ⟨o',e1⟩:=I.base.there b o e hx;exact ⟨o',(hs.2 b (aO (aR (aG e) I.ok.above))).trans e1⟩
   . by_cases hj:j=i
     . subst hj;rw [hi] at e1;cases e1;rw [mh hiσ] at e2;cases e2;exact ⟨u,r,.inl ⟨hk,by simp⟩⟩
     . rw [gh (Ne.symm hj)] at e2;obtain ⟨u',r',q⟩:=hl j y v' e1 e2 e3;refine ⟨u',r',?_⟩;rcases q with ⟨k,e⟩|⟨k,c,e,z⟩
       . refine .inl ⟨k,?_⟩;have:y≠x:=fun e=>hj (Kl hN e1 (e ▸ hi));simp [this,e]
       . exact .inr ⟨k,c,e,z.sameBut hs (cne y c e)⟩
   . obtain ⟨w',z⟩:=I.cell y c e;exact ⟨w',z.sameBut hs (cne y c e)⟩
   . obtain ⟨e,n,ne,nf,d⟩:=I.pin p hp;exact ⟨(hs.2 p.1 ne).trans e,n,ne,nf,d⟩
 . have hfn:X.fn x=true:=by
     rcases hf with z|z
     . exact z
     . rw [z] at hk;cases hk
   obtain ⟨c,hc⟩:=I.ok.has x (.inl hk);obtain ⟨w',z⟩:=I.cell x c hc;refine wpAny_storeName_cell I.ok.kind hk hc z (fun h' hc' hs=>?_);obtain ⟨oc,hoc,hocd⟩:=id z;refine h { s with heap:=h' } ⟨I.ok,I.os,I.bare,⟨fun b o e n hb hx=>?_,fun b o e n hb hx=>?_,I.base.free,fun b o e hx=>?_,I.base.tups,I.base.frzs,I.base.tbls⟩,⟨m,hn.sameBut hs (Ne.symm (cne x c hc)),fun j y v' e1 e2 e3=>?_⟩,fun y c' e=>?_,I.free,I.freeC,fun p hp=>?_,tracked ⟨oc,hoc,I.freeC x c hc⟩ hs,by simpa using I.len⟩ ⟨c,hs,.inr hc⟩
   . exact (hs.2 b (aO (aR (aG e) (I.ok.cab x c hfn hc)))).trans (I.base.keep b o e n hb hx)
   . obtain ⟨sl,e1⟩:=I.base.slot b o e n hb hx;exact ⟨sl,(hs.2 b (aO (aR (aG e) (I.ok.cab x c hfn hc)))).trans e1⟩
   . obtain ⟨o',e1⟩:=I.base.there b o e hx;exact ⟨o',(hs.2 b (aO (aR (aG e) (I.ok.cab x c hfn hc)))).trans e1⟩
   . by_cases hj:j=i
     . subst hj;rw [hi] at e1;cases e1;rw [mh hiσ] at e2;cases e2;exact ⟨u,r,.inr ⟨.inl hk,c,hc,hc'⟩⟩
     . rw [gh (Ne.symm hj)] at e2;obtain ⟨u',r',q⟩:=hl j y v' e1 e2 e3;refine ⟨u',r',?_⟩;rcases q with q|⟨k,c',e,z'⟩
       . exact .inl q
       . refine .inr ⟨k,c',e,z'.sameBut hs ?_⟩;rintro rfl;exact hj (Kl hN e1 (I.ok.inj _ _ _ e hc ▸ hi))
   . by_cases hcc:c'=c
     . subst hcc;exact ⟨_,hc'⟩
     . obtain ⟨w2,z2⟩:=I.cell y c' e;exact ⟨w2,z2.sameBut hs hcc⟩
   . obtain ⟨e,n,ne,nf,d⟩:=I.pin p hp;refine ⟨(hs.2 p.1 ?_).trans e,n,ne,nf,d⟩;intro q;rw [q,hoc] at e;have q':oc=p.2:=bi e;exact d w' (by rw [<- q'];exact hocd)
theorem Js {M:Model} {A:Around} {E:Value->Shared->Prop} {i:Nat} {x:Str} {v:V} {u:Value} {Q:Unit->Shared->Prop} (I:Inv X pins σ H s) (hN:X.N.Nodup) (hi:X.N[i]?=some x) (hx:Loc X.env.scope x) (r:RelV v u)
   (h:∀ s',Inv X pins (σ.set i (some v)) H s'->Q () s') (hf:X.fn x=true\/X.env.scope.names.lookup x=some .local:=by first|exact .inl rfl|exact .inr rfl|assumption):wpAny M A (storeName X.env x u) Q E s :=
 GW I hN hi hx r (fun s' I' _=>h s' I') hf
theorem Inv.call' {s':Shared} {ch:List Addr} (I:Inv X pins σ H s) (ho:s'.os=s.os) (u:Un (frs X.stack) ch H H' s.heap s'.heap) (hok:HOk X.prog X.w H' s'.heap) (hg:AllBare s'.gens)
   (hch:∀ b∈ch,(b∈X.ex\/X.s₀.heap.objs.size<=b)/\b≠X.env.locals/\(∀ x c,X.env.cells.lookup x=some c->c≠b)/\∀ p∈X.pn++pins,p.1≠b):Inv X pins σ H' s':=by
 obtain ⟨h',g',d',t',o'⟩:=s';have e:o'=s.os:=ho;subst e;exact I.call (g':=g') (t':=t') (d':=d') u hok hg hch
end
abbrev XK:=Value->Option Addr->Hp->Prop
abbrev St:=List (Option V)
abbrev VK:=V->Hp->Prop
abbrev TE:=St->Hp->VK->Prop
abbrev TT:=St->Hp->(Bool->Hp->Prop)->Prop
abbrev TA:=St->Hp->(List V->Hp->Prop)->Prop
structure Ends where
 nx:St->Hp->Prop
 rt:VK
 bk:St->Hp->Prop:=fun _ _=>False
 ct:St->Hp->Prop:=fun _ _=>False
abbrev TS:=Ends->St->Hp->Prop
def EP (X:Cx) (pins:List (Addr × Obj)) (σ:St) (Q:VK) (u:Value) (s':Shared):Prop:=∃ v H',Inv X pins σ H' s'/\RelV v u/\Q v H'
def TP (X:Cx) (pins:List (Addr × Obj)) (σ:St) (Q:Bool->Hp->Prop) (b:Bool) (s':Shared):Prop:=∃ H',Inv X pins σ H' s'/\Q b H'
def AP (X:Cx) (pins:List (Addr × Obj)) (σ:St) (Q:List V->Hp->Prop) (us:List Value) (s':Shared):Prop:=∃ vs H',Inv X pins σ H' s'/\Vals vs us/\Q vs H'
def SP (X:Cx) (pins:List (Addr × Obj)) (D:Ends) (f:Flow) (s':Shared):Prop :=
 match f with
 | .next=>∃ σ' H',Inv X pins σ' H' s'/\D.nx σ' H'
 | .brk=>∃ σ' H',Inv X pins σ' H' s'/\D.bk σ' H'
 | .cont=>∃ σ' H',Inv X pins σ' H' s'/\D.ct σ' H'
 | .ret u=>∃ v σ' H',Inv X pins σ' H' s'/\RelV v u/\D.rt v H'
def PE (X:Cx) (e:Expr) (t:TE):Prop :=
 ∀ (pins:List (Addr × Obj)) (s:Shared) (σ:St) (H:Hp) (Q:VK),Inv X pins σ H s->t σ H Q->wpAny (model X.prog X.w) X.A (eval e X.env) (EP X pins σ Q) X.xe s
def PT (X:Cx) (e:Expr) (t:TT):Prop :=
 ∀ (pins:List (Addr × Obj)) (s:Shared) (σ:St) (H:Hp) (Q:Bool->Hp->Prop),Inv X pins σ H s->t σ H Q->wpAny (model X.prog X.w) X.A (isTrue e X.env (eval e X.env)) (TP X pins σ Q) X.xe s
def PW (X:Cx) (e:Expr) (t:TT):Prop :=
 ∀ (whole:Sem Value) (pins:List (Addr × Obj)) (s:Shared) (σ:St) (H:Hp) (Q:Bool->Hp->Prop),Inv X pins σ H s->t σ H Q->wpAny (model X.prog X.w) X.A (isTrue e X.env whole) (TP X pins σ Q) X.xe s
theorem PW.pt {X:Cx} {e:Expr} {t:TT} (h:PW X e t):PT X e t:=h _
def PA (X:Cx) (es:List Expr) (t:TA):Prop :=
 ∀ (pos:Pos) (pins:List (Addr × Obj)) (s:Shared) (σ:St) (H:Hp) (Q:List V->Hp->Prop),Inv X pins σ H s->t σ H Q->wpAny (model X.prog X.w) X.A (spliced (backTo pos (starEach es X.env))) (AP X pins σ Q) X.xe s
def PS (X:Cx) (st:Stmt) (t:TS):Prop :=
 ∀ (pins:List (Addr × Obj)) (s:Shared) (σ:St) (H:Hp) (D:Ends),Inv X pins σ H s->t D σ H->wpAny (model X.prog X.w) X.A (exec st X.env) (SP X pins D) X.xe s
def PSs (X:Cx) (st:List Stmt) (t:TS):Prop :=
 ∀ (pins:List (Addr × Obj)) (s:Shared) (σ:St) (H:Hp) (D:Ends),Inv X pins σ H s->t D σ H->wpAny (model X.prog X.w) X.A (execs st X.env) (SP X pins D) X.xe s
theorem thn {α:Type} {t:Sem α} {Q Q':α->Shared->Prop} {M:Model} {A:Around} {E:Value->Shared->Prop} {s:Shared} (h:wpAny M A t Q E s) (hQ:∀ a s,Q a s->Q' a s):wpAny M A t Q' E s:=cJ h hQ fun _ _ x=>x
theorem dB {t:Sem Value} {X:Cx} {pins:List (Addr × Obj)} {σ:St} {Q:VK} {Q':Value->Shared->Prop} {M:Model} {A:Around} {E:Value->Shared->Prop} {s:Shared} (h:wpAny M A t (EP X pins σ Q) E s) (hQ:∀ u s v H,Inv X pins σ H s->RelV v u->Q v H->Q' u s):wpAny M A t Q' E s:=thn h fun u s ⟨v,H,I,r,q⟩=>hQ u s v H I r q
theorem xq {t:Sem (List Value)} {X:Cx} {pins:List (Addr × Obj)} {σ:St} {Q:List V->Hp->Prop} {Q':List Value->Shared->Prop} {M:Model} {A:Around} {E:Value->Shared->Prop} {s:Shared} (h:wpAny M A t (AP X pins σ Q) E s) (hQ:∀ u s v H,Inv X pins σ H s->Vals v u->Q v H->Q' u s):wpAny M A t Q' E s:=thn h fun u s ⟨v,H,I,r,q⟩=>hQ u s v H I r q
theorem Gi {t:Sem Bool} {X:Cx} {pins:List (Addr × Obj)} {σ:St} {Q:Bool->Hp->Prop} {Q':Bool->Shared->Prop} {M:Model} {A:Around} {E:Value->Shared->Prop} {s:Shared} (h:wpAny M A t (TP X pins σ Q) E s) (hQ:∀ u s H,Inv X pins σ H s->Q u H->Q' u s):wpAny M A t Q' E s:=thn h fun u s ⟨H,I,q⟩=>hQ u s H I q
end L2
namespace L2
open PySem PySem.Spec PyProof.Rows
section
variable {X:Cx}
def Gg (i:Nat):TE:=fun σ H Q=>∃ v,σ[i]?=some (some v)/\Q v H
def tC (v:V):TE:=fun _ H Q=>Q v H
theorem IH {i:Nat} {x:Str} {pos:Pos} (hN:X.N[i]?=some x) (hv:Vis X.env.scope x) (hd:(x == ("__debug__":Str))=false:=by decide) (hcd:(x == ("__classdict__":Str))=false:=by decide):PE X (.Name x pos) (Gg i):=by
 intro pins s σ H Q I h;obtain ⟨v,e,h⟩:=h;obtain ⟨m,hn,hl⟩:=I.loc;obtain ⟨u,r,l⟩:=hl i x v hN e hv;have fin:EP X pins σ Q u s:=⟨v,H,I,r,h⟩;rcases l with ⟨hk,hm⟩|⟨hk,c,hc,hcell⟩
 . exact wpAny_Name (wpAny_loadName_local I.ok.kind hk hn hm fin) hd
 . rcases hk with hk|hk
   . exact wpAny_Name (wpAny_loadName_cell I.ok.kind hk hc hcell fin) hd
   . exact wpAny_Name (wpAny_loadName_free I.ok.kind hk hc hcell fin hcd) hd
theorem aF {i j pos}:PE X (.Constant (.int i) j pos) (tC (.int i)):=fun _ _ _ H _ I h=>wpAny_Constant_int ⟨.int i,H,I.tok _,⟨_,rfl⟩,h⟩
theorem uR {b j pos}:PE X (.Constant (.bool b) j pos) (tC (.bl b)):=fun _ _ _ H _ I h=>Constant_bool ⟨.bl b,H,I,rfl,h⟩
theorem Kw {j pos}:PE X (.Constant .none j pos) (tC .non):=fun _ _ _ H _ I h=>Constant_none ⟨.non,H,I,rfl,h⟩
theorem qK {x j pos}:PE X (.Constant (.str x) j pos) (tC (.str x)):=fun _ _ _ H _ I h=>Calls.Constant_str ⟨.str x,H,I.tok _,⟨_,rfl⟩,h⟩
def Gl (X:Cx) (x:Str):Prop:=X.env.kindOf x=some .globalImplicit
theorem CD {E:Value->Shared->Prop} {pins:List (Addr × Obj)} {s:Shared} {σ:St} {H:Hp} {x:Str} {u:Value} {pos:Pos} {Q:Value->Shared->Prop} (I:Inv X pins σ H s) (hg:Gl X x) (hm:X.mg x=some u) (h:Q u s)
   (hd:(x == ("__debug__":Str))=false:=by decide):wpAny (model X.prog X.w) X.A (eval (.Name x pos) X.env) Q E s :=
 jX I.ok.kind hg (Calls.loadGlobal_global (by rw [I.ok.glob];exact I.mod.glob.keeps I.bk) hm h) hd
theorem t8 {E:Value->Shared->Prop} {pins:List (Addr × Obj)} {s:Shared} {σ:St} {H:Hp} {x:Str} {u:Value} {pos:Pos} {Q:Value->Shared->Prop} (I:Inv X pins σ H s) (hg:Gl X x) (hm:X.mg x=none) (hv:bootBuiltins x=some u) (h:Q u s)
   (hn:x≠"__name__":=by decide) (hd:(x == ("__debug__":Str))=false:=by decide):wpAny (model X.prog X.w) X.A (eval (.Name x pos) X.env) Q E s:=by
 obtain ⟨mb,h1,h2⟩:=I.mod.blt;exact jX I.ok.kind hg (Calls.loadGlobal_builtin (by rw [I.ok.glob];exact I.mod.glob.keeps I.bk) hm (by rw [I.ok.blt];exact h1.keeps I.bk) ((h2 x hn).trans hv) h) hd
theorem Uq {x:Str} {v:V} {u:Value} {pos:Pos} (hg:Gl X x) (hm:X.mg x=some u) (r:RelV v u) (hd:(x == ("__debug__":Str))=false:=by decide):PE X (.Name x pos) (tC v) :=
 fun _ _ _ H _ I h=>CD I hg hm ⟨v,H,I,r,h⟩ hd
theorem vb {x:Str} {v:V} {u:Value} {pos:Pos} (hg:Gl X x) (hm:X.mg x=none) (hv:bootBuiltins x=some u) (r:RelV v u) (hn:x≠"__name__":=by decide) (hd:(x == ("__debug__":Str))=false:=by decide):PE X (.Name x pos) (tC v) :=
 fun _ _ _ H _ I h=>t8 I hg hm hv ⟨v,H,I,r,h⟩ hn hd
variable {a b:Expr} {ta tb:TE} {pos:Pos}
def PC (X:Cx) (op:CmpOp) (a b:Expr) (t:TE):Prop :=
 ∀ (pins:List (Addr × Obj)) (s:Shared) (σ:St) (H:Hp) (Q:VK),Inv X pins σ H s->t σ H Q ->
   wpAny (model X.prog X.w) X.A (eval a X.env) (fun v s₁=>wpAny (model X.prog X.w) X.A (eval b X.env) (fun u s₂=>wpAny (model X.prog X.w) X.A (compareOp op v u) (EP X pins σ Q) X.xe s₂) X.xe s₁) X.xe s
theorem K6 (b:Expr) {op:CmpOp} (h:op≠.In) (h2:op≠.NotIn):behindInMarks op b=false:=by
 have e1:(op == CmpOp.In)=false:=by cases op <;> first|rfl|exact absurd rfl h
 have e2:(op == CmpOp.NotIn)=false:=by cases op <;> first|rfl|exact absurd rfl h2
 cases b <;> simp [behindInMarks,e1,e2]
def V2 (ta:TE):TE:=fun σ H Q=>ta σ H fun x H1=>Q (.bl (decide (x=.non))) H1
def Nx (ta:TE):TE:=fun σ H Q=>ta σ H fun x H1=>Q (.bl (!decide (x=.non))) H1
theorem RelV.none_iff {x:V} {v:Value} (r:RelV x v):(v == Value.none)=decide (x=.non):=by
 cases x with
 | non=>cases r;rfl
 | bl _=>cases r;rfl
 | int _=>obtain ⟨t,rfl⟩:=r;rfl
 | str _=>obtain ⟨t,rfl⟩:=r;rfl
 | byt _=>obtain ⟨t,rfl⟩:=r;rfl
 | flt _=>obtain ⟨t,rfl⟩:=r;rfl
 | ref _=>cases r;rfl
 | ty _=>cases r;rfl
theorem FO {j pos'} (ha:PE X a ta):PC X .IsNot a (.Constant .none j pos') (Nx ta):=by
 intro pins s σ H Q I h;refine dB (ha pins s σ H _ I h) fun v s1 x H1 I1 r1 q1=>?_;exact Constant_none (isnot_none_gen ⟨.bl _,H1,I1,by rw [r1.none_iff];rfl,q1⟩)
def tB (t:TE):TT:=fun σ H Q=>t σ H fun x H1=>∃ c,x=.bl c/\Q c H1
theorem Wd {op:CmpOp} {t:TE} (h:PC X op a b t) (h1:behindInMarks op b=false:=by first|exact K6 _ (by decide) (by decide)|rfl):PE X (.Compare a [op] [b] pos) t:=fun pins s σ H Q I hw=>wpAny_Compare1 (h pins s σ H Q I hw) h1
theorem Co {op:CmpOp} {t:TE} (h:PC X op a b t) (h1:behindInMarks op b=false:=by first|exact K6 _ (by decide) (by decide)|rfl):PT X (.Compare a [op] [b] pos) (tB t):=by
 intro pins s σ H Q I hw;refine wpAny_isTrue_Compare1 (thn (h pins s σ H _ I hw) fun v s1 h1=>thn h1 fun u s2 h2=>thn h2 fun c s3 ⟨x,H1,I1,r1,q1⟩=>?_) h1;obtain ⟨d,rfl,q⟩:=q1;cases r1;exact b8 ⟨H1,I1,q⟩
theorem jU {e:Expr} {t:TE} (h:PE X e t) (he:∀ whole,isTrue e X.env whole=(do let v <- whole;standAt e.pos;holding [v] (truthy v)):=by intro _;rfl):PT X e (tB t):=by
 intro pins s σ H Q I hw;refine isTrue_plain (dB (h pins s σ H _ I hw) fun v s1 x H1 I1 r1 q1=>?_) (he _);obtain ⟨d,rfl,q⟩:=q1;cases r1;exact b8 ⟨H1,I1,q⟩
variable {tA tB':TT} {jT:List Expr}
def RH (t u:TT):TT:=fun σ H Q=>t σ H fun c H1=>if c=true then u σ H1 Q else Q false H1
def tOr (t u:TT):TT:=fun σ H Q=>t σ H fun c H1=>if c=true then Q true H1 else u σ H1 Q
def Rx (t:TT):TT:=fun σ H Q=>t σ H fun c H1=>Q (!c) H1
theorem tH (ha:PT X a tA):PW X (.BoolOp .And [a] pos) tA:=by
 intro wh pins s σ H Q I h;refine isTrue_and (thn (ha pins s σ H Q I h) fun c s1 e=>?_);cases c with
 | true=>exact isTrue_and_nil e
 | false=>exact e
theorem yp (ha:PT X a tA):PW X (.BoolOp .Or [a] pos) tA:=by
 intro wh pins s σ H Q I h;refine isTrue_or (thn (ha pins s σ H Q I h) fun c s1 e=>?_);cases c with
 | false=>exact isTrue_or_nil e
 | true=>exact e
theorem rS (ha:PT X a tA) (hb:PW X (.BoolOp .And (b::jT) pos) tB'):PW X (.BoolOp .And (a::b::jT) pos) (RH tA tB'):=by
 intro wh pins s σ H Q I h;refine isTrue_and (Gi (ha pins s σ H _ I h) fun c s1 H1 I1 q1=>?_);cases c with
 | true=>exact hb wh pins s1 σ H1 Q I1 q1
 | false=>exact ⟨H1,I1,q1⟩
theorem uQ (ha:PT X a tA) (hb:PW X (.BoolOp .Or (b::jT) pos) tB'):PW X (.BoolOp .Or (a::b::jT) pos) (tOr tA tB'):=by
 intro wh pins s σ H Q I h;refine isTrue_or (Gi (ha pins s σ H _ I h) fun c s1 H1 I1 q1=>?_);cases c with
 | true=>exact ⟨H1,I1,q1⟩
 | false=>exact hb wh pins s1 σ H1 Q I1 q1
theorem jo (ha:PT X a tA):PT X (.UnaryOp .Not a pos) (Rx tA):=by
 intro pins s σ H Q I h;exact isTrue_not (ha pins s σ H (fun c H1=>Q (!c) H1) I h)
def Nq (ta tb:TE):TE:=fun σ H Q=>ta σ H fun x H1=>∃ c,x=.bl c/\if c=true then tb σ H1 Q else Q (.bl false) H1
def Vp (ta tb:TE):TE:=fun σ H Q=>ta σ H fun x H1=>∃ c,x=.bl c/\if c=true then Q (.bl true) H1 else tb σ H1 Q
def Od (ta:TE):TE:=fun σ H Q=>ta σ H fun x H1=>∃ c,x=.bl c/\Q (.bl (!c)) H1
theorem yB {op} {t:TE} (h:PE X a t):PE X (.BoolOp op [a] pos) t:=fun pins s σ H Q I hw=>BoolOp_one (h pins s σ H Q I hw)
theorem vX (ha:PE X a ta) (hb:PE X (.BoolOp .And (b::jT) pos) tb):PE X (.BoolOp .And (a::b::jT) pos) (Nq ta tb):=by
 intro pins s σ H Q I h;refine BoolOp_and (dB (ha pins s σ H _ I h) fun v s1 x H1 I1 r1 q1=>?_);obtain ⟨c,rfl,q1⟩:=q1;cases r1;refine b8 ?_;cases c with
 | true=>exact hb pins s1 σ H1 Q I1 q1
 | false=>exact ⟨.bl false,H1,I1,rfl,q1⟩
theorem V0 (ha:PE X a ta):PE X (.UnaryOp .Not a pos) (Od ta):=by
 intro pins s σ H Q I h;refine UnaryOp_ (dB (ha pins s σ H _ I h) fun v s1 x H1 I1 r1 q1=>?_);obtain ⟨c,rfl,q1⟩:=q1;cases r1;exact not_of (b8 ⟨.bl (!c),H1,I1,rfl,q1⟩)
def tIf (t:TT) (ta tb:TE):TE:=fun σ H Q=>t σ H fun c H1=>if c=true then ta σ H1 Q else tb σ H1 Q
end
end L2
namespace L2
open PySem PySem.Spec PyProof.Rows
def SqL (K:PySem.W.Frag) (H:Hp) (a:Addr) (xs:List V):Prop :=
 Rd H a (.lst xs) \/
   ∃ (o:Obj) (its:Array Value) (n:Nat),K.lookup a=some o/\o.cls=.type "list"/\o.dict=none/\o.data=.seq its n/\its.size<=sizeLine/\Vals xs its.toList
def SqT (K:PySem.W.Frag) (H:Hp) (a:Addr) (xs:List V):Prop :=
 Rd H a (.tup xs) \/
   ∃ (o:Obj) (its:Array Value) (n:Nat),K.lookup a=some o/\o.cls=.type "tuple"/\o.data=.seq its n/\its.size<=sizeLine/\Vals xs its.toList
def WD:Value->Option V
 | .none=>some .non
 | .bool b=>some (.bl b)
 | .int i _=>some (.int i)
 | .str x _=>some (.str x)
 | .bytes b _=>some (.byt b)
 | .float b _=>some (.flt b)
 | .ref a=>some (.ref a)
 | .type n=>some (.ty n)
 | _=>none
theorem RelV.abs {x:V} {u:Value} (r:RelV x u):WD u=some x:=by
 cases x with
 | non=>cases r;rfl
 | bl _=>cases r;rfl
 | int _=>obtain ⟨t,rfl⟩:=r;rfl
 | str _=>obtain ⟨t,rfl⟩:=r;rfl
 | byt _=>obtain ⟨t,rfl⟩:=r;rfl
 | flt _=>obtain ⟨t,rfl⟩:=r;rfl
 | ref _=>cases r;rfl
 | ty _=>cases r;rfl
theorem RelV.inj {x y:V} {u:Value} (r:RelV x u) (q:RelV y u):x=y:=bi (r.abs.symm.trans q.abs)
theorem Vals.inj {xs ys:List V} {us:List Value} (h:Vals xs us) (h2:Vals ys us):xs=ys:=by
 induction h generalizing ys with
 | nil=>cases h2;rfl
 | cons r _ ih=>cases h2 with|cons r2 t2=>rw [r.inj r2,ih t2]
section
variable {X:Cx} {pins:List (Addr × Obj)} {σ:St} {H:Hp} {s:Shared} {a:Addr} {xs ys:List V}
theorem SqL.of {K:PySem.W.Frag} (h:H a=some (.lst xs)):SqL K H a xs:=.inl (.inl h)
theorem SqT.of {K:PySem.W.Frag} (h:H a=some (.tup xs)):SqT K H a xs:=.inl (.inl h)
theorem Inv.list (I:Inv X pins σ H s) (h:SqL X.K H a xs):∃ its:List Value,Vals xs its/\PlainL s.heap a its.toArray/\xs.length<=sizeLine:=by
 rcases h with h|⟨o,its,n,hk,hc,hd,hs,hz,r⟩
 . obtain ⟨z,its,n,r,e⟩:=h.ok I.hok;exact ⟨its,r,⟨_,n,e,rfl,rfl,rfl⟩,z⟩
 . refine ⟨its.toList,r,⟨o,n,I.kIn a o hk,hc,hd,by simpa using hs⟩,?_⟩;have e:=r.length;simp only [dG] at e;omega
theorem Inv.tuple (I:Inv X pins σ H s) (h:SqT X.K H a xs):∃ its:List Value,Vals xs its/\IsTup s.heap a its.toArray/\xs.length<=sizeLine:=by
 rcases h with h|⟨o,its,n,hk,hc,hs,hz,r⟩
 . obtain ⟨z,its,r,p⟩:=h.ok I.hok;exact ⟨its,r,p,z⟩
 . refine ⟨its.toList,r,⟨o,I.kIn a o hk,hc,n,by simpa using hs⟩,?_⟩;have e:=r.length;simp only [dG] at e;omega
theorem Inv.list_inj (I:Inv X pins σ H s) (h:SqL X.K H a xs) (h':SqL X.K H a ys):xs=ys:=by
 obtain ⟨its,r,⟨o,n,e,_,_,d⟩,_⟩:=I.list h;obtain ⟨its',r',⟨o',n',e',_,_,d'⟩,_⟩:=I.list h';rw [e] at e';cases e';rw [d] at d';injection d' with d1 _
 have:its=its':=by simpa using congrArg Array.toList d1
 subst this;exact r.inj r'
theorem Inv.tuple_inj (I:Inv X pins σ H s) (h:SqT X.K H a xs) (h':SqT X.K H a ys):xs=ys:=by
 obtain ⟨its,r,⟨o,e,_,n,d⟩,_⟩:=I.tuple h;obtain ⟨its',r',⟨o',e',_,n',d'⟩,_⟩:=I.tuple h';rw [e] at e';cases e';rw [d] at d';injection d' with d1 _
 have:its=its':=by simpa using congrArg Array.toList d1
 subst this;exact r.inj r'
end
abbrev Cx.wish (X:Cx) (E:Value->Shared->Prop):Cx:={ X with xe:=E }
abbrev Cx.nox (X:Cx):Cx:=X.wish fun _ _=>False
theorem Cx.Ok.wish {X:Cx} (ok:X.Ok) (E:Value->Shared->Prop):(X.wish E).Ok :=
 ⟨ok.mod,ok.kind,ok.glob,ok.blt,ok.above,ok.inj,ok.has,ok.cab,ok.hd,ok.frames,ok.stk,ok.exf,ok.bs,ok.bsz,ok.noex,ok.exfs,ok.funs,ok.frf⟩
theorem Cx.Ok.unwish {X:Cx} {E:Value->Shared->Prop} (ok:(X.wish E).Ok):X.Ok :=
 ⟨ok.mod,ok.kind,ok.glob,ok.blt,ok.above,ok.inj,ok.has,ok.cab,ok.hd,ok.frames,ok.stk,ok.exf,ok.bs,ok.bsz,ok.noex,ok.exfs,ok.funs,ok.frf⟩
section
variable {X:Cx} {pins:List (Addr × Obj)} {σ:St} {H:Hp} {s:Shared} {E:Value->Shared->Prop}
theorem Inv.wish (I:Inv X pins σ H s) (E:Value->Shared->Prop):Inv (X.wish E) pins σ H s:=⟨I.ok.wish E,I.os,I.bare,I.base,I.loc,I.cell,I.free,I.freeC,I.pin,I.hok,I.len⟩
theorem Inv.unwish (I:Inv (X.wish E) pins σ H s):Inv X pins σ H s:=⟨I.ok.unwish,I.os,I.bare,I.base,I.loc,I.cell,I.free,I.freeC,I.pin,I.hok,I.len⟩
theorem SP.unwish {D:Ends} {f:Flow} {s':Shared} (h:SP (X.wish E) pins D f s'):SP X pins D f s':=by
 cases f with
 | next=>obtain ⟨σ',H',I,q⟩:=h;exact ⟨σ',H',I.unwish,q⟩
 | brk=>obtain ⟨σ',H',I,q⟩:=h;exact ⟨σ',H',I.unwish,q⟩
 | cont=>obtain ⟨σ',H',I,q⟩:=h;exact ⟨σ',H',I.unwish,q⟩
 | ret u=>obtain ⟨v,σ',H',I,r,q⟩:=h;exact ⟨v,σ',H',I.unwish,r,q⟩
theorem PSs.nox {st:List Stmt} {t:TS} (h:PSs X.nox st t):PSs X st t:=fun pins s σ H D I hw =>
 cJ (h pins s σ H D (I.wish _) hw) (fun _ _ q=>q.unwish) fun _ _ z=>False.elim z
end
section
variable {X:Cx} {st:Stmt} {jT:List Stmt} {t u:TS} {e:Expr} {te:TE} {pos:Pos}
def tNext:TS:=fun D σ H=>D.nx σ H
def OI (t u:TS):TS:=fun D σ H=>t { D with nx:=u D } σ H
theorem b5:PSs X [] tNext:=fun _ _ σ H _ I h=>iB ⟨σ,H,I,h⟩
theorem ay (h1:PS X st t) (h2:PSs X jT u):PSs X (st::jT) (OI t u):=by
 intro pins s σ H D I h;refine wpAny_execs_cons (thn (h1 pins s σ H { D with nx:=u D } I h) fun f s1 q=>?_);cases f with
 | next =>
   obtain ⟨σ',H',I',q⟩:=q;exact h2 pins s1 σ' H' D I' q
 | ret v=>exact q
 | brk=>exact q
 | cont=>exact q
theorem aM (h1:PS X st t):PSs X [st] t:=by
 intro pins s σ H D I h;refine wpAny_execs_cons (thn (h1 pins s σ H D I h) fun f s1 q=>?_);cases f with
 | next=>exact iB q
 | ret v=>exact q
 | brk=>exact q
 | cont=>exact q
theorem Inv.quiet {pins:List (Addr × Obj)} {σ:St} {H:Hp} {s:Shared} (I:Inv X pins σ H s):interactive X.env=false:=by simp [interactive,I.ok.kind]
def O5 (te:TE):TS:=fun D σ H=>te σ H fun _ H1=>D.nx σ H1
theorem eK (he:PE X e te) (hs:swapsWith e none pos.line X.env=pure false:=by rfl):PS X (.Expr e pos) (O5 te):=by
 intro pins s σ H D I h;exact wpAny_Expr_any (dB (he pins s σ H _ I h) fun v s1 x H1 I1 r1 q1=>⟨σ,H1,I1,q1⟩) I.quiet hs
def Th (te:TE):TS:=fun D σ H=>te σ H D.rt
theorem bR (he:PE X e te):PS X (.Return (some e) pos) (Th te):=by
 intro pins s σ H D I h;exact wpAny_Return_some (dB (he pins s σ H _ I h) fun v s1 x H1 I1 r1 q1=>⟨x,σ,H1,I1,r1,q1⟩)
def TX:TS:=fun D _ H=>D.rt .non H
def Ki (c:TT) (t u:TS):TS:=fun D σ H=>c σ H fun b H1=>if b=true then t D σ H1 else u D σ H1
theorem dj {c:Expr} {a b:List Stmt} {tc:TT} (hc:PT X c tc) (ha:PSs X a t) (hb:PSs X b u):PS X (.If c a b pos) (Ki tc t u):=by
 intro pins s σ H D I h;refine wpAny_If (Gi (hc pins s σ H _ I h) fun d s1 H1 I1 q1=>?_);cases d with
 | true=>exact ha pins s1 σ H1 D I1 q1
 | false=>exact hb pins s1 σ H1 D I1 q1
def tNever:TS:=fun _ _ _=>False
theorem tM:PS X st tNever:=fun _ _ _ _ _ _ h=>h.elim
end
abbrev TG:=V->St->Hp->(St->Hp->Prop)->Prop
abbrev TGs:=List V->St->Hp->(St->Hp->Prop)->Prop
def PG (X:Cx) (target:Expr) (t:TG):Prop :=
 ∀ (pins:List (Addr × Obj)) (s:Shared) (σ:St) (H:Hp) (v:V) (u:Value) (Q:St->Hp->Prop),Inv X pins σ H s->RelV v u->t v σ H Q ->
   wpAny (model X.prog X.w) X.A (assign target X.env u) (fun _ s'=>∃ σ' H',Inv X pins σ' H' s'/\Q σ' H') X.xe s
def PGs (X:Cx) (ts:List Expr) (t:TGs):Prop :=
 ∀ (pins:List (Addr × Obj)) (s:Shared) (σ:St) (H:Hp) (vs:List V) (us:List Value) (Q:St->Hp->Prop),Inv X pins σ H s->Vals vs us->t vs σ H Q ->
   wpAny (model X.prog X.w) X.A (assignInOrder ((assignEach ts X.env).map (·.2)) us) (fun _ s'=>∃ σ' H',Inv X pins σ' H' s'/\Q σ' H') X.xe s
abbrev HZ:=V->V->V->Hp->(Hp->Prop)->Prop
def Sm (X:Cx) (t:HZ):Prop :=
 ∀ (pins:List (Addr × Obj)) (s:Shared) (σ:St) (H:Hp) (o i v:V) (ov iv u:Value) (Q:Hp->Prop),Inv X pins σ H s->RelV o ov->RelV i iv->RelV v u->t o i v H Q ->
   wpAny (model X.prog X.w) X.A (setItem ov iv u) (fun _ s'=>∃ H',Inv X pins σ H' s'/\Q H') X.xe s
abbrev TIp:=V->V->Hp->VK->Prop
def PIp (X:Cx) (op:Operator) (t:TIp):Prop :=
 ∀ (pins:List (Addr × Obj)) (s:Shared) (σ:St) (H:Hp) (x y:V) (v u:Value) (Q:VK),Inv X pins σ H s->RelV x v->RelV y u->t x y H Q ->
   wpAny (model X.prog X.w) X.A (inplaceOp op v u) (EP X pins σ Q) X.xe s
section
variable {X:Cx} {pos:Pos}
def ES (i:Nat):TG:=fun v σ H Q=>Q (σ.set i (some v)) H
theorem bJ {i:Nat} {x:Str} (hN:X.N.Nodup) (hi:X.N[i]?=some x) (hx:Loc X.env.scope x) (hf:X.fn x=true\/X.env.scope.names.lookup x=some .local:=by first|exact .inl rfl|exact .inr rfl|assumption):PG X (.Name x pos) (ES i):=by
 intro pins s σ H v u Q I r h;exact wpAny_assign_Name (Js I hN hi hx r (fun s' I'=>⟨_,H,I',h⟩) hf)
def gNil:TGs:=fun vs σ H Q=>vs=[]/\Q σ H
def OV (t:TG) (u:TGs):TGs:=fun vs σ H Q=>∃ v r,vs=v::r/\t v σ H fun σ' H'=>u r σ' H' Q
theorem qe:PGs X [] gNil:=by
 intro pins s σ H vs us Q I r h;obtain ⟨e,h⟩:=h;subst e;cases r;exact assignInOrder_nil ⟨σ,H,I,h⟩
theorem dE {e:Expr} {es:List Expr} {t:TG} {u:TGs} (h1:PG X e t) (h2:PGs X es u)
   (hs:(assignEach (e::es) X.env).map (·.2)=assign e X.env::(assignEach es X.env).map (·.2):=by rfl):PGs X (e::es) (OV t u):=by
 intro pins s σ H vs us Q I r h;obtain ⟨v,vr,e1,h⟩:=h;subst e1;cases r with
 | cons r rr =>
   rw [hs];refine assignInOrder_cons (thn (h1 pins s σ H _ _ _ I r h) fun _ s1 ⟨σ1,H1,I1,q1⟩=>?_);exact h2 pins s1 σ1 H1 _ _ Q I1 rr q1
def Tc (K:PySem.W.Frag) (n:Nat) (t:TGs):TG:=fun v σ H Q=>∃ a xs,v=.ref a/\SqT K H a xs/\xs.length=n/\t xs σ H Q
theorem sg {es:List Expr} {k:Nat} {t:TGs} {n:Nat} (hc:X.calm=true) (h:PGs X es t)
   (hn:(assignEach es X.env).length=n:=by rfl) (hst:(assignEach es X.env).findIdx? (·.1)=none:=by rfl):PG X (.Tuple es k pos) (Tc X.K n t):=by
 intro pins s σ H v u Q I r hw;obtain ⟨a,xs,e1,hq,hl,hw⟩:=hw;subst e1;cases r;obtain ⟨its,rv,ht,hz⟩:=I.tuple hq;refine assign_Tuple_tuple (I.ok.hd hc) ht (by simp [hn,<- hl,rv.length]) hst fun h' hx=>?_;have I1:Inv X pins σ H { s with heap:=h' }:=I.kept (t':=s.toks) fun b o e=>hx b o (aO (aG e)) e;exact h pins _ σ H xs _ Q I1 (by simpa using rv) hw
def Q9 (to ti:TE) (t:HZ):TG:=fun v σ H Q=>to σ H fun o H1=>ti σ H1 fun i H2=>t o i v H2 fun H3=>Q σ H3
theorem rQ {o i:Expr} {to ti:TE} {t:HZ} (ho:PE X o to) (hi:PE X i ti) (hs:Sm X t)
   (ha:∀ v,assign (.Subscript o i pos) X.env v=(do
     let ov <- holding [v] (eval o X.env)
     let iv <- holding [v,ov] (eval i X.env)
     standAt pos
     holding [v,ov,iv] (setItem ov iv v)
     release [v,ov,iv] []):=by intro _;rfl):PG X (.Subscript o i pos) (Q9 to ti t):=by
 intro pins s σ H v u Q I r h;rw [ha];refine aj (cV (dB (ho pins s σ H _ I h) fun ov s1 x H1 I1 r1 q1=>?_));refine aj (cV (dB (hi pins s1 σ H1 _ I1 q1) fun iv s2 y H2 I2 r2 q2=>?_));refine aj (jv (aj (cV (thn (hs pins s2 σ H2 x y v ov iv u _ I2 r1 r2 r q2) fun _ s3 ⟨H3,I3,q3⟩=>?_))));exact wpAny_release ⟨σ,H3,I3,q3⟩
def K7 (te:TE) (g:TG):TS:=fun D σ H=>te σ H fun x H1=>g x σ H1 D.nx
theorem ph {tg e:Expr} {te:TE} {g:TG} (he:PE X e te) (hg:PG X tg g) (hs:swapsWithSole [tg] e pos.line X.env=pure false:=by rfl) (hw:swappedStores [tg] e X.env=pure none:=by rfl)
   (h1:(assignEach [tg] X.env).map (·.2)=[assign tg X.env]:=by rfl):PS X (.Assign [tg] e pos) (K7 te g):=by
 intro pins s σ H D I h;refine wpAny_Assign_stores (dB (he pins s σ H _ I h) fun v s1 x H1 I1 r1 q1=>?_) hs hw;rw [h1];exact thn (hg pins s1 σ H1 x v _ I1 r1 q1) fun _ s2 q=>q
theorem bp {i:Nat} {x:Str} {e:Expr} {te:TE} {pos':Pos} (hN:X.N.Nodup) (hi:X.N[i]?=some x) (hx:Loc X.env.scope x) (he:PE X e te) (hs:swapsWith e (some (.Name x pos')) pos.line X.env=pure false:=by rfl) (hf:X.fn x=true\/X.env.scope.names.lookup x=some .local:=by first|exact .inl rfl|exact .inr rfl|assumption) :
   PS X (.Assign [.Name x pos'] e pos) (K7 te (ES i)):=by
 intro pins s σ H D I h;refine wpAny_Assign_Name (dB (he pins s σ H _ I h) fun v s1 y H1 I1 r1 q1=>?_) hs;exact Js I1 hN hi hx r1 (fun s2 I2=>⟨_,H1,I2,q1⟩) hf
def VH (i:Nat) (te:TE) (ti:TIp):TS:=fun D σ H=>∃ x,σ[i]?=some (some x)/\te σ H fun y H1=>ti x y H1 fun z H2=>D.nx (σ.set i (some z)) H2
def Ob (to ti te:TE) (tget:V->V->Hp->VK->Prop) (tip:TIp) (tset:HZ):TS:=fun D σ H=>to σ H fun o H1=>ti σ H1 fun i H2=>tget o i H2 fun x H3=>te σ H3 fun y H4=>tip x y H4 fun z H5=>tset o i z H5 fun H6=>D.nx σ H6
def Vn (X:Cx) (t:V->V->Hp->VK->Prop):Prop :=
 ∀ (pins:List (Addr × Obj)) (s:Shared) (σ:St) (H:Hp) (o i:V) (ov iv:Value) (Q:VK),Inv X pins σ H s->RelV o ov->RelV i iv->t o i H Q ->
   wpAny (model X.prog X.w) X.A (getItem ov iv) (EP X pins σ Q) X.xe s
theorem U1 {o i e:Expr} {to ti te:TE} {tget:V->V->Hp->VK->Prop} {tip:TIp} {tset:HZ} {op:Operator} {tpos:Pos} (ho:PE X o to) (hi:PE X i ti) (hg:Vn X tget) (he:PE X e te) (hp:PIp X op tip) (hs:Sm X tset)
   (ha:∀ ov iv new,augStore i ov iv new=(do holding [new,ov,iv] (setItem ov iv new);release [new,ov,iv] [];pure .next):=by intros;rfl):PS X (.AugAssign (.Subscript o i tpos) op e pos) (Ob to ti te tget tip tset):=by
 intro pins s σ H D I h;refine wpAny_AugAssign_SubscriptAny (dB (ho pins s σ H _ I h) fun ov s1 x1 H1 I1 r1 q1=>?_) ha;refine dB (hi pins s1 σ H1 _ I1 q1) fun iv s2 x2 H2 I2 r2 q2=>?_;refine thn (hg pins s2 σ H2 x1 x2 ov iv _ I2 r1 r2 q2) fun old s3 ⟨x3,H3,I3,r3,q3⟩=>?_;refine dB (he pins s3 σ H3 _ I3 q3) fun v s4 x4 H4 I4 r4 q4=>?_;refine thn (hp pins s4 σ H4 x3 x4 old v _ I4 r3 r4 q4) fun new s5 ⟨x5,H5,I5,r5,q5⟩=>?_;exact thn (hs pins s5 σ H5 x1 x2 x5 ov iv new _ I5 r1 r2 r5 q5) fun _ s6 ⟨H6,I6,q6⟩=>⟨σ,H6,I6,q6⟩
def ipI (f:Int->Int->Int):TIp:=fun x y H Q=>∃ i j,x=.int i/\y=.int j/\Q (.int (f i j)) H
theorem Vt:PIp X .Add (ipI fun i j=>i+j):=by
 intro pins s σ H x y v u Q I r1 r2 h;obtain ⟨i,j,e1,e2,q⟩:=h;subst e1;subst e2;obtain ⟨t,rfl⟩:=r1;obtain ⟨t',rfl⟩:=r2;exact iadd_int ⟨.int _,H,I.tok _,⟨_,rfl⟩,q⟩
end
section
variable {X:Cx} {pos:Pos}
def JS (c:TT) (tb:TS):TS:=fun D σ H=>∃ W:Nat->St->Hp->Prop,(∃ m,W m σ H)/\∀ m σ H,W m σ H ->
 c σ H fun b H1=>if b=true then ∃ N:St->Hp->Prop,(∀ σ' H',N σ' H'->∃ m',m'<m/\W m' σ' H')/\tb { D with nx:=N,ct:=N,bk:=D.nx } σ H1 else D.nx σ H1
theorem zW {c:Expr} {body:List Stmt} {tc:TT} {tb:TS} (hp:PassesOwn (model X.prog X.w) X.A X.env X.xe) (hc:PT X c tc) (hb:PSs X body tb):PS X (.While c body [] pos) (JS tc tb):=by
 intro pins s σ H D I h;obtain ⟨W,⟨m0,w0⟩,turn⟩:=h;refine wpAny_While (codeAny_whileLoop (fun n s'=>∃ σ' H',Inv X pins σ' H' s'/\W n σ' H') ?_ m0 ⟨σ,H,I,w0⟩);rintro n s1 ⟨σ1,H1,I1,w1⟩;refine d5 hp (Gi (hc pins s1 σ1 H1 _ I1 (turn n σ1 H1 w1)) fun b s2 H2 I2 q2=>?_);cases b with
 | true =>
   obtain ⟨N,hN,q2⟩:=q2;rw [ag rfl];refine d5 hp (thn (hb pins s2 σ1 H2 _ I2 q2) fun f s3 q3=>?_);cases f with
   | next =>
     obtain ⟨σ3,H3,I3,n3⟩:=q3;obtain ⟨m',hm,w3⟩:=hN σ3 H3 n3;exact ⟨m',hm,σ3,H3,I3,w3⟩
   | cont =>
     obtain ⟨σ3,H3,I3,n3⟩:=q3;obtain ⟨m',hm,w3⟩:=hN σ3 H3 n3;exact ⟨m',hm,σ3,H3,I3,w3⟩
   | brk=>exact q3
   | ret v=>exact q3
 | false =>
   rw [aa aV];exact iB ⟨σ1,H2,I2,q2⟩
end
structure It where
 go:Nat->Hp->Prop
 yld:Nat->Hp->V->Hp->Prop
 stop:Nat->Hp->Prop
def vy (X:Cx) (pins:List (Addr × Obj)) (H:Hp) (b:Addr):Prop :=
 H b=none/\b≠X.env.locals/\b ∉ X.fs/\(b∈X.ex\/X.s₀.heap.objs.size<=b)/\(∀ x c,X.env.cells.lookup x=some c->c≠b)/\∀ p∈X.pn++pins,p.1≠b
theorem Inv.fpOk {X:Cx} {pins:List (Addr × Obj)} {σ:St} {H H':Hp} {s:Shared} {b:Addr} (I:Inv X pins σ H s) (hb:s.heap.objs.size<=b) (hn:H' b=none):vy X pins H' b:=by
 refine ⟨hn,kg (aR I.lt hb),I.nofs hb,.inr (bq I.sz hb),fun x c e z=>?_,fun p hp z=>?_⟩
 . obtain ⟨v,q⟩:=I.cell x c e;exact absurd (aR q.lt (by rw [z];exact hb)) (dy _)
 . exact absurd (aR (aG (I.pin p hp).1) (by rw [z];exact hb)) (dy _)
structure Turn (P:Program) (w:World) (K:PySem.W.Frag) (tg:Expr) (J:It) (fp:List Addr) (it:Addr) (tn:Nat->Heap->Prop):Prop where
 mem:it∈fp
 obj:∀ i h,tn i h->∀ b∈fp,∃ o,h.get? b=some o/\∀ v,o.data≠.cell v
 keep:∀ i h h',tn i h->(∀ b∈fp,∀ o,h.get? b=some o->h'.get? b=some o)->tn i h'
 item:∀ (X:Cx),X.prog=P->X.w=w->X.K=K->X.calm=true->∀ (i:Nat) (pins:List (Addr × Obj)) (s:Shared) (σ:St) (H:Hp) (E:Value->Shared->Prop),Inv X pins σ H s->(∀ b∈fp,vy X pins H b)->tn i s.heap->J.go i H ->
   wpAny (model P w) X.A (pyNext (.ref it)) (fun r s1=>∃ u,r=some u /\
     wpAny (model P w) X.A (letOwnedTupleGo tg (.ref it) u) (fun _ s2=>∃ x H',Inv X pins σ H' s2/\RelV x u/\J.yld i H x H'/\tn (i+1) s2.heap/\∀ b∈fp,H' b=none) E s1) E s
 done:∀ (X:Cx),X.prog=P->X.w=w->X.K=K->X.calm=true->∀ (i:Nat) (pins:List (Addr × Obj)) (s:Shared) (σ:St) (H:Hp) (E:Value->Shared->Prop),Inv X pins σ H s->(∀ b∈fp,vy X pins H b)->tn i s.heap->J.stop i H ->
   wpAny (model P w) X.A (pyNext (.ref it)) (fun r s1=>r=none/\Inv X pins σ H s1) E s
 self:∀ (A:Around) (i:Nat) (s:Shared) (Q:Value->Shared->Prop) (E:Value->Shared->Prop),tn i s.heap->Q (.ref it) s->wpAny (model P w) A (pyIter (.ref it)) Q E s
abbrev TI:=St->Hp->(It->Hp->Prop)->Prop
def PIE (X:Cx) (pins:List (Addr × Obj)) (σ:St) (tg:Expr) (R:It->Hp->Prop) (itv:Value) (s2:Shared):Prop :=
 ∃ (it:Addr) (fp:List Addr) (tn:Nat->Heap->Prop) (J:It) (H':Hp),itv=.ref it/\Inv X pins σ H' s2/\Turn X.prog X.w X.K tg J fp it tn/\tn 0 s2.heap/\(∀ b∈fp,vy X pins H' b)/\R J H'
def PI (X:Cx) (tg iter:Expr) (wi:TI):Prop :=
 ∀ (pins:List (Addr × Obj)) (s:Shared) (σ:St) (H:Hp) (R:It->Hp->Prop),Inv X pins σ H s->wi σ H R ->
   wpAny (model X.prog X.w) X.A (eval iter X.env) (fun v s1=>wpAny (model X.prog X.w) X.A (pyIter v) (PIE X pins σ tg R) X.xe s1) X.xe s
theorem HU {M:Model} {A:Around} {E:Value->Shared->Prop} {s:Shared} {tg:Expr} {it:Addr} {u:Value} {o:Obj} {n:String} {vs:Array Value} {Q:Unit->Shared->Prop} (ho:s.heap.get? it=some o) (hc:o.cls=.type n) (hd:o.data=.fields vs)
   (hn:["enumerate","zip","dict_itemiterator","dict_reverseitemiterator","odict_iterator","itertools.zip_longest","itertools.pairwise"].contains n=false) (hQ:Q () s):wpAny M A (letOwnedTupleGo tg (.ref it) u) Q E s:=by
 unfold letOwnedTupleGo;cases tg <;> first
   | exact ap hQ
   | (cases u <;> first
       | exact ap hQ
       | (refine aj (wpAny_load ho ?_)
          rw [hc,hd];show wpAny M A (if (["enumerate","zip","dict_itemiterator","dict_reverseitemiterator","odict_iterator","itertools.zip_longest","itertools.pairwise"].contains n && vs[0]? == some (rawInt _))=true then _ else _) Q E s;rw [aa (by intro h;rw [hn,kj] at h;cases h)];exact ap hQ))
def Itl (K:PySem.W.Frag) (a:Addr):It :=
 ⟨fun i H=>∃ xs x,SqL K H a xs/\xs[i]?=some x,fun i H x H'=>H'=H/\∀ xs,SqL K H a xs->xs[i]?=some x,fun i H=>∃ xs,SqL K H a xs/\xs.length<=i⟩
def Itt (K:PySem.W.Frag) (a:Addr):It :=
 ⟨fun i H=>∃ xs x,SqT K H a xs/\xs[i]?=some x,fun i H x H'=>H'=H/\∀ xs,SqT K H a xs->xs[i]?=some x,fun i H=>∃ xs,SqT K H a xs/\xs.length<=i⟩
def Itr (lo:Int) (n:Nat):It:=⟨fun i _=>i<n,fun i H x H'=>H'=H/\x=.int (lo+i),fun i _=>n<=i⟩
theorem Qa {P:Program} {w:World} {K:PySem.W.Frag} {tg:Expr} (a it:Addr):Turn P w K tg (Itl K a) [it] it (fun i h=>h.IsListIter it a i) where
 mem:=by simp
 obj:=fun i h st b hb=>by
   have e:b=it:=by simpa using hb
   subst e;obtain ⟨o,e,c,d⟩:=st;exact ⟨o,e,fun v z=>by rw [d] at z;cases z⟩
 keep:=fun i h h' st k=>st.at fun o e=>k it (by simp) o e
 item:=by
   intro X hP hw hK hc i pins s σ H E I hf st hg;subst hP hw hK;obtain ⟨xs,x,hq,hx⟩:=hg;obtain ⟨its,rv,p,hz⟩:=I.list hq;obtain ⟨u,hu,ru⟩:=rv.get hx;obtain ⟨f0,f1,f2,f3,f4,f5⟩:=hf it (by simp);refine wpAny_pyNext_list_item st p.isList (x:=u) (by simpa using hu) fun h' st' sb=>?_;have I1:Inv X pins σ H { s with heap:=h' }:=I.turned (t':=s.toks) (fun b o hb e=>(sb.2 b hb).trans e) f0 f1 f3 f4 f5;obtain ⟨o,e,c,d⟩:=id st';exact ⟨u,rfl,HU (s:={ s with heap:=h' }) e c d (by decide) ⟨x,H,I1,ru,⟨rfl,fun ys hy=>by rw [I.list_inj hy hq];exact hx⟩,st',fun b hb=>(hf b hb).1⟩⟩
 done:=by
   intro X hP hw hK hc i pins s σ H E I hf st hg;subst hP hw hK;obtain ⟨xs,hq,hx⟩:=hg;obtain ⟨its,rv,p,hz⟩:=I.list hq;obtain ⟨f0,f1,f2,f3,f4,f5⟩:=hf it (by simp);have hl:=rv.length;exact wpAny_pyNext_list_end (I.ok.hd hc) st p.isList (by simp;omega) fun h' eb=>⟨rfl,I.turned (t':=s.toks) (fun b o hb e=>eb b o hb e) f0 f1 f3 f4 f5⟩
 self:=fun _ _ _ _ _ st h=>wpAny_pyIter_listiter st h
theorem Ou {P:Program} {w:World} {K:PySem.W.Frag} {tg:Expr} (a it:Addr):Turn P w K tg (Itt K a) [it] it (fun i h=>h.IsTupleIter it a i) where
 mem:=by simp
 obj:=fun i h st b hb=>by
   have e:b=it:=by simpa using hb
   subst e;obtain ⟨o,e,c,d⟩:=st;exact ⟨o,e,fun v z=>by rw [d] at z;cases z⟩
 keep:=fun i h h' st k=>st.at fun o e=>k it (by simp) o e
 item:=by
   intro X hP hw hK hc i pins s σ H E I hf st hg;subst hP hw hK;obtain ⟨xs,x,hq,hx⟩:=hg;obtain ⟨its,rv,p,hz⟩:=I.tuple hq;obtain ⟨u,hu,ru⟩:=rv.get hx;obtain ⟨f0,f1,f2,f3,f4,f5⟩:=hf it (by simp);refine wpAny_pyNext_tuple_item st (show s.heap.IsTuple a its.toArray from p) (x:=u) (by simpa using hu) fun h' st' sb=>?_;have I1:Inv X pins σ H { s with heap:=h' }:=I.turned (t':=s.toks) (fun b o hb e=>(sb.2 b hb).trans e) f0 f1 f3 f4 f5;obtain ⟨o,e,c,d⟩:=id st';exact ⟨u,rfl,HU (s:={ s with heap:=h' }) e c d (by decide) ⟨x,H,I1,ru,⟨rfl,fun ys hy=>by rw [I.tuple_inj hy hq];exact hx⟩,st',fun b hb=>(hf b hb).1⟩⟩
 done:=by
   intro X hP hw hK hc i pins s σ H E I hf st hg;subst hP hw hK;obtain ⟨xs,hq,hx⟩:=hg;obtain ⟨its,rv,p,hz⟩:=I.tuple hq;obtain ⟨f0,f1,f2,f3,f4,f5⟩:=hf it (by simp);have hl:=rv.length;exact wpAny_pyNext_tuple_end (I.ok.hd hc) st (show s.heap.IsTuple a its.toArray from p) (by simp;omega) fun h' eb=>⟨rfl,I.turned (t':=s.toks) (fun b o hb e=>eb b o hb e) f0 f1 f3 f4 f5⟩
 self:=fun _ _ _ _ _ st h=>wpAny_pyIter_tupleiter st h
theorem OL {P:Program} {w:World} {K:PySem.W.Frag} {tg:Expr} (it:Addr) (lo:Int) (n:Nat):Turn P w K tg (Itr lo n) [it] it (fun i h=>IsRangeIter h it (lo+(i:Nat)*1) ((n:Int) - (i:Nat)) 1) where
 mem:=by simp
 obj:=fun i h st b hb=>by
   have e:b=it:=by simpa using hb
   subst e;exact ⟨_,st,fun v z=>by
     have z':Data.fields _=Data.cell v:=z;cases z'⟩
 keep:=fun i h h' st k=>k it (by simp) _ st
 item:=by
   intro X hP hw hK hc i pins s σ H E I hf st hg;subst hP hw hK;obtain ⟨f0,f1,f2,f3,f4,f5⟩:=hf it (by simp);have W:=Walks.range (prog:=X.prog) (w:=X.w) (I.ok.hd hc) it lo 1 n;refine W.item i s _ _ hg st fun v h' tk hv st' kk=>?_;obtain ⟨t,rfl⟩:=hv;have I1:Inv X pins σ H { s with heap:=h',toks:=tk }:=I.turned (fun b o hb e=>kk b o (by simpa using hb) e) f0 f1 f3 f4 f5;refine ⟨_,rfl,HU (s:={ s with heap:=h',toks:=tk }) (n:="range_iterator") st' rfl rfl (by decide) ⟨.int (lo+i),H,I1,⟨t,?_⟩,⟨rfl,rfl⟩,st',fun b hb=>(hf b hb).1⟩⟩;rw [Int.mul_one]
 done:=by
   intro X hP hw hK hc i pins s σ H E I hf st hg;subst hP hw hK;obtain ⟨f0,f1,f2,f3,f4,f5⟩:=hf it (by simp);exact wpAny_pyNext_range_end (I.ok.hd hc) st (by have:n<=i:=hg;omega) fun h' eb=>⟨rfl,I.turned (t':=s.toks) (fun b o hb e=>eb b o hb e) f0 f1 f3 f4 f5⟩
 self:=fun _ _ _ _ _ st h=>wpAny_pyIter_rangeiter st h
end L2
namespace L2
open PySem PySem.Spec PyProof.Rows
section
variable {X:Cx} {tg:Expr}
def OS (K:PySem.W.Frag) (tl:TE):TI:=fun σ H R=>tl σ H fun x H1=>∃ a,x=.ref a/\(∃ xs,SqL K H1 a xs)/\R (Itl K a) H1
def Si (K:PySem.W.Frag) (tl:TE):TI:=fun σ H R=>tl σ H fun x H1=>∃ a,x=.ref a/\(∃ xs,SqT K H1 a xs)/\R (Itt K a) H1
theorem p7 {l:Expr} {tl:TE} (hl:PE X l tl):PI X tg l (OS X.K tl):=by
 intro pins s σ H R I h;refine dB (hl pins s σ H _ I h) fun v s1 x H1 I1 r1 q1=>?_;obtain ⟨a,e,⟨xs,hq⟩,q⟩:=q1;subst e;cases r1;obtain ⟨its,rv,p,hz⟩:=I1.list hq;refine jV p.isList ?_;refine ⟨s1.heap.objs.size,[s1.heap.objs.size],_,_,H1,rfl,I1.kept (t':=s1.toks) fun b o e=>aJ _ e,Qa a _,⟨_,bg _ rfl,rfl,rfl⟩,fun b hb=>?_,q⟩;have e:b=s1.heap.objs.size:=by simpa using hb
 subst e;exact I1.fpOk (aI _) (I1.hok.fresh (aI _))
theorem vH {l:Expr} {tl:TE} (hl:PE X l tl):PI X tg l (Si X.K tl):=by
 intro pins s σ H R I h;refine dB (hl pins s σ H _ I h) fun v s1 x H1 I1 r1 q1=>?_;obtain ⟨a,e,⟨xs,hq⟩,q⟩:=q1;subst e;cases r1;obtain ⟨its,rv,p,hz⟩:=I1.tuple hq;refine wpAny_pyIter_tuple (show s1.heap.IsTuple a its.toArray from p) ?_;refine ⟨s1.heap.objs.size,[s1.heap.objs.size],_,_,H1,rfl,I1.kept (t':=s1.toks) fun b o e=>aJ _ e,Ou a _,⟨_,bg _ rfl,rfl,rfl⟩,fun b hb=>?_,q⟩;have e:b=s1.heap.objs.size:=by simpa using hb
 subst e;exact I1.fpOk (aI _) (I1.hok.fresh (aI _))
theorem Il {pins:List (Addr × Obj)} {σ:St} {H:Hp} {s:Shared} {R:It->Hp->Prop} {E:Value->Shared->Prop} {lo hi:Int} {t u v:Tok} {tk:Nat} (I:Inv X pins σ H s) (h1:-(2^62)<=lo) (h2:lo<2^62) (h3:-(2^62)<=hi) (h4:hi<2^62)
   (q:R (Itr lo (hi - lo).toNat) H):wpAny (model X.prog X.w) X.A (pyIter (.ref s.heap.objs.size)) (PIE X pins σ tg R) E { s with heap:=s.heap.push { cls:=.type "range",data:=.fields #[.int lo t,.int hi u,.int 1 v] },toks:=tk }:=by
 refine wpAny_pyIter_range (IsRange.new ..) (small_one h1 h2 h3 h4) ?_;have I1:Inv X pins σ H { s with heap:=s.heap.push { cls:=.type "range",data:=.fields #[.int lo t,.int hi u,.int 1 v] },toks:=tk }:=I.kept fun b o e=>aJ _ e;refine ⟨(s.heap.push { cls:=.type "range",data:=.fields #[.int lo t,.int hi u,.int 1 v] }).objs.size,[(s.heap.push { cls:=.type "range",data:=.fields #[.int lo t,.int hi u,.int 1 v] }).objs.size],_,_,H,rfl,
   I1.kept (t':=tk) fun b o e=>aJ _ e,OL _ lo (hi - lo).toNat,?_,fun b hb=>?_,q⟩
 . have e1:lo+((0:Nat):Int)*1=lo:=by simp
   have e2:(((hi - lo).toNat:Nat):Int) - ((0:Nat):Int)=Builtin.Range.rangeSize lo hi 1:=by rw [rangeSize_one];split <;> omega
   show IsRangeIter _ _ (lo+((0:Nat):Int)*1) ((((hi - lo).toNat:Nat):Int) - ((0:Nat):Int)) 1;rw [e1,e2];exact bg _ rfl
 . have e:b=(s.heap.push { cls:=.type "range",data:=.fields #[.int lo t,.int hi u,.int 1 v] }).objs.size:=by simpa using hb
   subst e;exact I1.fpOk (aI _) (I1.hok.fresh (aI _))
def Ny (ta:TA):TI:=fun σ H R=>ta σ H fun vs H1=>∃ j:Int,vs=[.int j]/\-(2^62)<=j/\j<2^62/\R (Itr 0 j.toNat) H1
def NQ (ta:TA):TI:=fun σ H R=>ta σ H fun vs H1=>∃ i j:Int,vs=[.int i,.int j]/\(-(2^62)<=i/\i<2^62/\-(2^62)<=j/\j<2^62)/\R (Itr i (j - i).toNat) H1
theorem rF {a:Expr} {ta:TA} {p pos:Pos} (hg:Gl X "range") (hm:X.mg "range"=none) (ha:PA X [a] ta) (hs:starEach [a] X.env=[(false,eval a X.env)]:=by rfl):PI X tg (.Call (.Name "range" p) [a] [] pos) (Ny ta):=by
 intro pins s σ H R I h;refine Call_ (t8 I hg hm boot_range (dv (xq (ha pos pins s σ H _ I h) fun us s1 vs H1 I1 r1 q1=>?_) hs rfl));obtain ⟨j,e,q1,q2,q⟩:=q1;subst e;cases r1 with
 | cons r rr =>
   cases rr;obtain ⟨t,rfl⟩:=r;exact call_range_1 (Il I1 (by omega) (by omega) q1 q2 (by simpa using q))
theorem BI {a b:Expr} {ta:TA} {p pos:Pos} (hg:Gl X "range") (hm:X.mg "range"=none) (ha:PA X [a,b] ta) (hs:starEach [a,b] X.env=[(false,eval a X.env),(false,eval b X.env)]:=by rfl) (hs2:starEach [b] X.env=[(false,eval b X.env)]:=by rfl) :
   PI X tg (.Call (.Name "range" p) [a,b] [] pos) (NQ ta):=by
 intro pins s σ H R I h;refine Call_ (t8 I hg hm boot_range (dv (xq (ha pos pins s σ H _ I h) fun us s1 vs H1 I1 r1 q1=>?_) (by rw [hs,hs2]) (by rw [hs2];rfl)));obtain ⟨i,j,e,⟨q1,q2,q3,q4⟩,q⟩:=q1;subst e;cases r1 with
 | cons r rr =>
   cases rr with
   | cons r' rr =>
     cases rr;obtain ⟨t,rfl⟩:=r;obtain ⟨t',rfl⟩:=r';exact call_range_2 (Il I1 q1 q2 q3 q4 q)
def V6 (wi:TI) (g:TG) (tb:TS):TS:=fun D σ H=>wi σ H fun J H1=>∃ W:Nat->Nat->St->Hp->Prop,(∃ m,W 0 m σ H1)/\∀ i m σ H,W i m σ H ->
 (J.stop i H/\D.nx σ H)\/(J.go i H/\∃ N:St->Hp->Prop,(∀ σ' H',N σ' H'->∃ m',m'<m/\W (i+1) m' σ' H')/\∀ x H',J.yld i H x H'->g x σ H' fun σ2 H2=>tb { D with nx:=N,ct:=N,bk:=D.nx } σ2 H2)
def yW (fp:List Addr) (h:Heap):List (Addr × Obj):=fp.filterMap fun b=>(h.get? b).map fun o=>(b,o)
theorem pZ {fp:List Addr} {h:Heap} {b:Addr} {o:Obj} (hb:b∈fp) (e:h.get? b=some o):(b,o)∈yW fp h:=gM.mpr ⟨b,hb,by rw [e];rfl⟩
theorem Qm {fp:List Addr} {h:Heap} {p:Addr × Obj} (hp:p∈yW fp h):p.1∈fp/\h.get? p.1=some p.2:=by
 obtain ⟨b,hb,e⟩:=gM.mp hp;cases q:h.get? b with
 | none=>rw [q] at e;cases e
 | some o =>
   rw [q] at e;have e':(b,o)=p:=bi e;subst e';exact ⟨hb,q⟩
theorem Inv.pinned {pins:List (Addr × Obj)} {σ:St} {H:Hp} {s:Shared} {fp:List Addr} (I:Inv X pins σ H s) (hf:∀ b∈fp,vy X pins H b) (ho:∀ b∈fp,∃ o,s.heap.get? b=some o/\∀ v,o.data≠.cell v):Inv X (pins++yW fp s.heap) σ H s :=
 I.pins_of fun p hp=>(aQ.mp hp).elim (fun z=>I.pin p (aN _ z)) fun z=>by
   obtain ⟨hb,e⟩:=Qm z;obtain ⟨f0,f1,f2,_⟩:=hf p.1 hb;obtain ⟨o,e',d⟩:=ho p.1 hb;rw [e] at e';cases e';exact ⟨e,f0,f1,f2,d⟩
theorem Inv.unpinned {pins pl:List (Addr × Obj)} {σ:St} {H:Hp} {s:Shared} (I:Inv X (pins++pl) σ H s):Inv X pins σ H s:=I.pins_of fun p hp=>I.pin p (aN _ (a9 _ hp))
theorem hZ {iter:Expr} {body:List Stmt} {wi:TI} {g:TG} {tb:TS} {pos:Pos} (hp:PassesOwn (model X.prog X.w) X.A X.env X.xe) (hc:X.calm=true) (hi:PI X tg iter wi) (hg:PG X tg g) (hb:PSs X body tb)
   (hs:∀ x,foldedSetIterable iter X.env x=pure x:=by intro _;rfl):PS X (.For tg iter body [] pos) (V6 wi g tb):=by
 intro pins s σ H D I h;refine wpAny_For (thn (hi pins s σ H _ I h) fun v s1 h1=>thn h1 fun itv s2 h2=>?_) hs;obtain ⟨it,fp,tn,J,H2,e,I2,T,st2,f2,W,⟨m0,w0⟩,turn⟩:=h2;subst e;have stat:∀ {H':Hp},(∀ b∈fp,H' b=none)->∀ b∈fp,vy X pins H' b:=fun hn b hb=>⟨hn b hb,(f2 b hb).2⟩;refine codeAny_forLoop_any (fun n s'=>∃ i σ' H',Inv X pins σ' H' s'/\tn i s'.heap/\(∀ b∈fp,H' b=none)/\W i n σ' H') ?_ m0 ⟨0,σ,H2,I2,st2,fun b hb=>(f2 b hb).1,w0⟩;rintro n s3 ⟨i,σ3,H3,I3,st3,fr3,w3⟩;rcases turn i n σ3 H3 w3 with ⟨stop,qn⟩|⟨go,N,hN,step⟩
 . refine d5 hp (thn (T.done X rfl rfl rfl hc i pins s3 σ3 H3 X.xe I3 (stat fr3) st3 stop) fun r s4 ⟨hr,I4⟩=>?_);subst hr;exact iB ⟨σ3,H3,I4,qn⟩
 . refine d5 hp (thn (T.item X rfl rfl rfl hc i pins s3 σ3 H3 X.xe I3 (stat fr3) st3 go) fun r s4 ⟨u,hr,h4⟩=>?_);subst hr;refine d5 hp (thn h4 fun _ s5 ⟨x,H5,I5,r5,y5,st5,fr5⟩=>?_);have I5':=I5.pinned (stat fr5) (T.obj _ _ st5);refine d5 hp (thn (hg _ s5 σ3 H5 x u _ I5' r5 (step x H5 y5)) fun _ s6 ⟨σ6,H6,I6,q6⟩=>?_);refine d5 hp (thn (hb _ s6 σ6 H6 _ I6 q6) fun f s7 q7=>?_);have again:∀ {σ7:St} {H7:Hp},Inv X (pins++yW fp s5.heap) σ7 H7 s7->N σ7 H7->∃ m,m<n/\∃ i σ' H',Inv X pins σ' H' s7/\tn i s7.heap/\(∀ b∈fp,H' b=none)/\W i m σ' H':=fun {σ7 H7} I7 n7=>by
     obtain ⟨m',hm,w7⟩:=hN σ7 H7 n7;refine ⟨m',hm,i+1,σ7,H7,I7.unpinned,T.keep _ _ _ st5 fun b hb o e=>(I7.pin (b,o) (aN _ (aN _ (pZ hb e)))).1,fun b hb=>?_,w7⟩;obtain ⟨o,e,d⟩:=T.obj _ _ st5 b hb;exact (I7.pin (b,o) (aN _ (aN _ (pZ hb e)))).2.1
   cases f with
   | next=>obtain ⟨σ7,H7,I7,n7⟩:=q7;exact again I7 n7
   | cont=>obtain ⟨σ7,H7,I7,n7⟩:=q7;exact again I7 n7
   | brk=>obtain ⟨σ7,H7,I7,q7⟩:=q7;exact ⟨σ7,H7,I7.unpinned,q7⟩
   | ret v=>obtain ⟨x7,σ7,H7,I7,r7,q7⟩:=q7;exact ⟨x7,σ7,H7,I7.unpinned,r7,q7⟩
end
theorem KU {K:PySem.W.Frag} {a:Addr} {xs:List V} {g:TG} {tb:TS} {D:Ends} {σ:St} {H:Hp} (Pv:Nat->St->Hp->Prop) (h0:Pv 0 σ H) (hl:∀ i σ H,i<=xs.length->Pv i σ H->SqL K H a xs)
   (hs:∀ i x σ H,xs[i]?=some x->Pv i σ H->g x σ H fun σ2 H2=>tb { D with nx:=Pv (i+1),ct:=Pv (i+1),bk:=D.nx } σ2 H2) (hd:∀ σ H,Pv xs.length σ H->D.nx σ H) :
   ∃ W:Nat->Nat->St->Hp->Prop,(∃ m,W 0 m σ H)/\∀ i m σ H,W i m σ H ->
     ((Itl K a).stop i H/\D.nx σ H)\/((Itl K a).go i H/\∃ N:St->Hp->Prop,(∀ σ' H',N σ' H'->∃ m',m'<m/\W (i+1) m' σ' H')/\∀ x H',(Itl K a).yld i H x H'->g x σ H' fun σ2 H2=>tb { D with nx:=N,ct:=N,bk:=D.nx } σ2 H2):=by
 refine ⟨fun i m σ H=>m=xs.length - i/\i<=xs.length/\Pv i σ H,⟨xs.length,by simp,bo _,h0⟩,?_⟩;rintro i m σ H ⟨rfl,hi,p⟩;have q:=hl i σ H hi p;by_cases hlt:i<xs.length
 . refine .inr ⟨⟨xs,xs[i],q,by simp [hlt]⟩,Pv (i+1),fun σ' H' p'=>⟨xs.length - (i+1),by omega,rfl,hlt,p'⟩,fun x H' y=>?_⟩;obtain ⟨e,y⟩:=y;subst e;exact hs i x σ _ (y xs q) p
 . have e:i=xs.length:=by omega
   subst e;exact .inl ⟨⟨xs,q,aI _⟩,hd σ H p⟩
theorem Cw {K:PySem.W.Frag} {a:Addr} {xs:List V} {g:TG} {tb:TS} {D:Ends} {σ:St} {H:Hp} (Pv:Nat->St->Hp->Prop) (h0:Pv 0 σ H) (hl:∀ i σ H,i<=xs.length->Pv i σ H->SqT K H a xs)
   (hs:∀ i x σ H,xs[i]?=some x->Pv i σ H->g x σ H fun σ2 H2=>tb { D with nx:=Pv (i+1),ct:=Pv (i+1),bk:=D.nx } σ2 H2) (hd:∀ σ H,Pv xs.length σ H->D.nx σ H) :
   ∃ W:Nat->Nat->St->Hp->Prop,(∃ m,W 0 m σ H)/\∀ i m σ H,W i m σ H ->
     ((Itt K a).stop i H/\D.nx σ H)\/((Itt K a).go i H/\∃ N:St->Hp->Prop,(∀ σ' H',N σ' H'->∃ m',m'<m/\W (i+1) m' σ' H')/\∀ x H',(Itt K a).yld i H x H'->g x σ H' fun σ2 H2=>tb { D with nx:=N,ct:=N,bk:=D.nx } σ2 H2):=by
 refine ⟨fun i m σ H=>m=xs.length - i/\i<=xs.length/\Pv i σ H,⟨xs.length,by simp,bo _,h0⟩,?_⟩;rintro i m σ H ⟨rfl,hi,p⟩;have q:=hl i σ H hi p;by_cases hlt:i<xs.length
 . refine .inr ⟨⟨xs,xs[i],q,by simp [hlt]⟩,Pv (i+1),fun σ' H' p'=>⟨xs.length - (i+1),by omega,rfl,hlt,p'⟩,fun x H' y=>?_⟩;obtain ⟨e,y⟩:=y;subst e;exact hs i x σ _ (y xs q) p
 . have e:i=xs.length:=by omega
   subst e;exact .inl ⟨⟨xs,q,aI _⟩,hd σ H p⟩
theorem Pq {lo:Int} {n:Nat} {g:TG} {tb:TS} {D:Ends} {σ:St} {H:Hp} (Pv:Nat->St->Hp->Prop) (h0:Pv 0 σ H)
   (hs:∀ i σ H,i<n->Pv i σ H->g (.int (lo+i)) σ H fun σ2 H2=>tb { D with nx:=Pv (i+1),ct:=Pv (i+1),bk:=D.nx } σ2 H2) (hd:∀ σ H,Pv n σ H->D.nx σ H) :
   ∃ W:Nat->Nat->St->Hp->Prop,(∃ m,W 0 m σ H)/\∀ i m σ H,W i m σ H ->
     ((Itr lo n).stop i H/\D.nx σ H)\/((Itr lo n).go i H/\∃ N:St->Hp->Prop,(∀ σ' H',N σ' H'->∃ m',m'<m/\W (i+1) m' σ' H')/\∀ x H',(Itr lo n).yld i H x H'->g x σ H' fun σ2 H2=>tb { D with nx:=N,ct:=N,bk:=D.nx } σ2 H2):=by
 refine ⟨fun i m σ H=>m=n - i/\i<=n/\Pv i σ H,⟨n,by simp,bo _,h0⟩,?_⟩;rintro i m σ H ⟨rfl,hi,p⟩;by_cases hlt:i<n
 . refine .inr ⟨hlt,Pv (i+1),fun σ' H' p'=>⟨n - (i+1),by omega,rfl,hlt,p'⟩,fun x H' y=>?_⟩;obtain ⟨e,y⟩:=y;subst e y;exact hs i σ _ hlt p
 . have e:i=n:=by omega
   subst e;exact .inl ⟨aI _,hd σ H p⟩
end L2
namespace L2
open PySem PySem.Spec PyProof.Rows
abbrev R2:=V->V->Hp->VK->Prop
def OpR (X:Cx) (f:Value->Value->Sem Value) (r:R2):Prop :=
 ∀ (pins:List (Addr × Obj)) (s:Shared) (σ:St) (H:Hp) (x y:V) (v u:Value) (Q:VK),Inv X pins σ H s->RelV x v->RelV y u->r x y H Q ->
   wpAny (model X.prog X.w) X.A (f v u) (EP X pins σ Q) X.xe s
def UnR (X:Cx) (f:Value->Sem Value) (r:V->Hp->VK->Prop):Prop :=
 ∀ (pins:List (Addr × Obj)) (s:Shared) (σ:St) (H:Hp) (x:V) (v:Value) (Q:VK),Inv X pins σ H s->RelV x v->r x H Q ->
   wpAny (model X.prog X.w) X.A (f v) (EP X pins σ Q) X.xe s
def qb (X:Cx) (f:Value) (r:List V->Hp->VK->Prop):Prop :=
 ∀ (pins:List (Addr × Obj)) (s:Shared) (σ:St) (H:Hp) (xs:List V) (us:List Value) (Q:VK),Inv X pins σ H s->Vals xs us->r xs H Q ->
   wpAny (model X.prog X.w) X.A (call f us) (EP X pins σ Q) X.xe s
def WP (X:Cx) (r:V->Hp->(Bool->Hp->Prop)->Prop):Prop :=
 ∀ (pins:List (Addr × Obj)) (s:Shared) (σ:St) (H:Hp) (x:V) (v:Value) (Q:Bool->Hp->Prop),Inv X pins σ H s->RelV x v->r x H Q ->
   wpAny (model X.prog X.w) X.A (truthy v) (TP X pins σ Q) X.xe s
def tOp (r:R2) (ta tb:TE):TE:=fun σ H Q=>ta σ H fun x H1=>tb σ H1 fun y H2=>r x y H2 Q
def tUn (r:V->Hp->VK->Prop) (ta:TE):TE:=fun σ H Q=>ta σ H fun x H1=>r x H1 Q
def rI (C:Int->Int->Prop) (g:Int->Int->V):R2:=fun x y H Q=>∃ i j,x=.int i/\y=.int j/\C i j/\Q (g i j) H
def rI0 (g:Int->Int->V):R2:=fun x y H Q=>∃ i j,x=.int i/\y=.int j/\Q (g i j) H
def rU (g:Int->V):V->Hp->VK->Prop:=fun x H Q=>∃ i,x=.int i/\Q (g i) H
section
variable {X:Cx} {a b c:Expr} {ta tb tc:TE} {pos:Pos}
theorem Ta (ha:PE X a ta) (hb:PE X b tb) {pins:List (Addr × Obj)} {s:Shared} {σ:St} {H:Hp} {R:V->V->Hp->Prop} (I:Inv X pins σ H s)
   (h:ta σ H fun x H1=>tb σ H1 fun y H2=>R x y H2) {Q:Value->Shared->Prop} {f:Value->Value->Sem Value}
   (hf:∀ v u s2 x y H2,Inv X pins σ H2 s2->RelV x v->RelV y u->R x y H2->wpAny (model X.prog X.w) X.A (f v u) Q X.xe s2) :
   wpAny (model X.prog X.w) X.A (eval a X.env) (fun v s₁=>wpAny (model X.prog X.w) X.A (eval b X.env) (fun u s₂=>wpAny (model X.prog X.w) X.A (f v u) Q X.xe s₂) X.xe s₁) X.xe s:=by
 refine dB (ha pins s σ H _ I h) fun v s1 x H1 I1 r1 q1=>?_;refine dB (hb pins s1 σ H1 _ I1 q1) fun u s2 y H2 I2 r2 q2=>?_;exact hf v u s2 x y H2 I2 r1 r2 q2
theorem bd {op:Operator} {r:R2} (ho:OpR X (binaryOp op) r) (ha:PE X a ta) (hb:PE X b tb):PE X (.BinOp a op b pos) (tOp r ta tb):=by
 intro pins s σ H Q I h;exact wpAny_BinOp (Ta ha hb I h fun v u s2 x y H2 I2 rx ry q=>ho pins s2 σ H2 x y v u Q I2 rx ry q)
theorem TM {op:UnaryOp} {r:V->Hp->VK->Prop} (ho:UnR X (unaryOp op) r) (ha:PE X a ta):PE X (.UnaryOp op a pos) (tUn r ta):=by
 intro pins s σ H Q I h;exact UnaryOp_ (dB (ha pins s σ H _ I h) fun v s1 x H1 I1 r1 q1=>ho pins s1 σ H1 x v Q I1 r1 q1)
theorem opI {f:Value->Value->Sem Value} {C:Int->Int->Prop} {g:Int->Int->Int}
   (rule:∀ (i j:Int) (t u:Tok) (s:Shared) (Q:Value->Shared->Prop) (E:Value->Shared->Prop),C i j->Q (.int (g i j) s.toks) { s with toks:=s.toks+1 }->wpAny (model X.prog X.w) X.A (f (.int i t) (.int j u)) Q E s) :
   OpR X f (rI C fun i j=>.int (g i j)):=by
 intro pins s σ H x y v u Q I rx ry h;obtain ⟨i,j,rfl,rfl,hc,q⟩:=h;obtain ⟨t,rfl⟩:=rx;obtain ⟨t',rfl⟩:=ry;exact rule i j t t' s _ _ hc ⟨.int (g i j),H,I.tok _,⟨_,rfl⟩,q⟩
theorem VB {f:Value->Value->Sem Value} {g:Int->Int->Int}
   (rule:∀ (i j:Int) (t u:Tok) (s:Shared) (Q:Value->Shared->Prop) (E:Value->Shared->Prop),Q (.int (g i j) s.toks) { s with toks:=s.toks+1 }->wpAny (model X.prog X.w) X.A (f (.int i t) (.int j u)) Q E s) :
   OpR X f (rI0 fun i j=>.int (g i j)):=by
 intro pins s σ H x y v u Q I rx ry h;obtain ⟨i,j,rfl,rfl,q⟩:=h;obtain ⟨t,rfl⟩:=rx;obtain ⟨t',rfl⟩:=ry;exact rule i j t t' s _ _ ⟨.int (g i j),H,I.tok _,⟨_,rfl⟩,q⟩
theorem OO {f:Value->Value->Sem Value} {g:Int->Int->Bool}
   (rule:∀ (i j:Int) (t u:Tok) (s:Shared) (Q:Value->Shared->Prop) (E:Value->Shared->Prop),Q (.bool (g i j)) s->wpAny (model X.prog X.w) X.A (f (.int i t) (.int j u)) Q E s) :
   OpR X f (rI0 fun i j=>.bl (g i j)):=by
 intro pins s σ H x y v u Q I rx ry h;obtain ⟨i,j,rfl,rfl,q⟩:=h;obtain ⟨t,rfl⟩:=rx;obtain ⟨t',rfl⟩:=ry;exact rule i j t t' s _ _ ⟨.bl (g i j),H,I,rfl,q⟩
def VR (i j:Int):Prop:=0<j/\j<1073741824
def VY (i j:Int):Prop:=0<=j/\j<=1000000/\i.natAbs<2^64
def CMul (i j:Int):Prop:=(-(2^64)<i/\i<2^64)\/(-(2^64)<j/\j<2^64)
theorem CMul.ok {i j:Int} (h:CMul i j):IntMulOk i j:=by
 rcases h with ⟨h1,h2⟩|⟨h1,h2⟩
 . exact .of_left (intBits_le_64 h1 h2)
 . exact .of_right (intBits_le_64 h1 h2)
theorem nP:OpR X (binaryOp .Add) (rI0 fun i j=>.int (i+j)):=VB fun _ _ _ _ _ _ _ q=>add_int q
theorem qN:OpR X (binaryOp .Sub) (rI0 fun i j=>.int (i - j)):=VB fun _ _ _ _ _ _ _ q=>sub_int q
theorem pC:OpR X (binaryOp .Mult) (rI CMul fun i j=>.int (i*j)):=opI fun _ _ _ _ _ _ _ hc q=>mul_int q hc.ok
theorem gA:OpR X (binaryOp .FloorDiv) (rI VR fun i j=>.int (i / j)):=opI fun i j _ _ _ _ _ hc q=>by
 have h1:(0:Int)<j:=hc.1;have h2:j<1073741824:=hc.2;exact floordiv_int (by omega) (by rw [jN i (by omega)];exact q) (.inl (PyProof.noPylong_small (by omega)))
theorem dY:OpR X (binaryOp .Mod) (rI (fun _ j=>0<j) fun i j=>.int (i % j)):=opI fun i j _ _ _ _ _ hc q=>by
 have h1:(0:Int)<j:=hc;exact mod_int' (by omega) (by rw [Int.fmod_eq_emod_of_nonneg i (by omega)];exact q)
theorem rN:OpR X (binaryOp .Pow) (rI VY fun i j=>.int (i^j.toNat)):=opI fun _ _ _ _ _ _ _ hc q=>pow_int_small hc.1 hc.2.1 hc.2.2 q
theorem unI {f:Value->Sem Value} {g:Int->Int}
   (rule:∀ (i:Int) (t:Tok) (s:Shared) (Q:Value->Shared->Prop) (E:Value->Shared->Prop),Q (.int (g i) s.toks) { s with toks:=s.toks+1 }->wpAny (model X.prog X.w) X.A (f (.int i t)) Q E s) :
   UnR X f (rU fun i=>.int (g i)):=by
 intro pins s σ H x v Q I rx h;obtain ⟨i,rfl,q⟩:=h;obtain ⟨t,rfl⟩:=rx;exact rule i t s _ _ ⟨.int (g i),H,I.tok _,⟨_,rfl⟩,q⟩
theorem Qr:UnR X (unaryOp .USub) (rU fun i=>.int (-i)):=unI fun _ _ _ _ _ q=>neg_int q
end
def xb:V->V->Bool
 | .non,.non=>true|.non,.int _=>true|.int _,.non=>true|.non,.bl _=>true|.bl _,.non=>true|.non,.str _=>true|.str _,.non=>true
 | .int _,.int _=>true|.bl _,.bl _=>true|.str _,.str _=>true|.byt _,.byt _=>true
 | .int _,.str _=>true|.str _,.int _=>true|.bl _,.str _=>true|.str _,.bl _=>true
 | _,_=>false
def rEq:R2:=fun x y H Q=>xb x y=true/\Q (.bl (decide (x=y))) H
def rNe:R2:=fun x y H Q=>xb x y=true/\Q (.bl (!decide (x=y))) H
theorem MV {i j:Int}:decide (V.int i=V.int j)=(i == j):=by
 rw [eR];simp
theorem QY {i j:Bool}:decide (V.bl i=V.bl j)=(i == j):=by
 rw [eR];simp
theorem M7 {i j:Str}:decide (V.str i=V.str j)=(i == j):=by
 rw [eR];simp
theorem Ni {i j:Array UInt8}:decide (V.byt i=V.byt j)=(i.toList == j.toList):=by
 rw [eR];cases i;cases j;simp
section
variable {X:Cx} {a b c:Expr} {ta tb tc:TE} {pos:Pos}
theorem dM {pins:List (Addr × Obj)} {σ:St} {H:Hp} {s:Shared} {Q:VK} {k k':Bool} (I:Inv X pins σ H s) (q:Q (.bl k) H) (e:k=k'):EP X pins σ Q (.bool k') s:=by
 subst e;exact ⟨.bl k,H,I,rfl,q⟩
theorem jB:OpR X (compareOp .Eq) rEq:=by
 intro pins s σ H x y v u Q I rx ry h;obtain ⟨hs,q⟩:=h;cases x with
 | non =>
   cases rx;cases y with
   | non=>cases ry;exact PySem.EqNone.eq_none_none (dM I q (by simp))
   | bl j=>cases ry;exact PySem.EqNone.eq_none_bool (dM I q (by simp))
   | int j=>obtain ⟨t',rfl⟩:=ry;exact PySem.EqNone.eq_none_int (dM I q (by simp))
   | str j=>obtain ⟨t',rfl⟩:=ry;exact PySem.EqNone.eq_none_str (dM I q (by simp))
   | _=>exact absurd (show false=true from hs) aV
 | bl i =>
   cases rx;cases y with
   | non=>cases ry;exact PySem.EqNone.eq_bool_none (dM I q (by simp))
   | bl j=>cases ry;exact eq_bool (dM I q QY)
   | str j=>obtain ⟨t',rfl⟩:=ry;exact PySem.EqMixed.eq_bool_str (dM I q (by simp))
   | _=>exact absurd (show false=true from hs) aV
 | int i =>
   obtain ⟨t,rfl⟩:=rx;cases y with
   | non=>cases ry;exact PySem.EqNone.eq_int_none (dM I q (by simp))
   | int j=>obtain ⟨t',rfl⟩:=ry;exact eq_int (dM I q MV)
   | str j=>obtain ⟨t',rfl⟩:=ry;exact PySem.EqMixed.eq_int_str (dM I q (by simp))
   | _=>exact absurd (show false=true from hs) aV
 | str i =>
   obtain ⟨t,rfl⟩:=rx;cases y with
   | non=>cases ry;exact PySem.EqNone.eq_str_none (dM I q (by simp))
   | bl j=>cases ry;exact PySem.EqMixed.eq_str_bool (dM I q (by simp))
   | int j=>obtain ⟨t',rfl⟩:=ry;exact PySem.EqMixed.eq_str_int (dM I q (by simp))
   | str j=>obtain ⟨t',rfl⟩:=ry;exact eq_str (dM I q M7)
   | _=>exact absurd (show false=true from hs) aV
 | byt i =>
   obtain ⟨t,rfl⟩:=rx;cases y with
   | byt j=>obtain ⟨t',rfl⟩:=ry;exact PySem.W.eq_bytes (dM I q Ni)
   | _=>exact absurd (show false=true from hs) aV
 | _=>cases y <;> exact absurd (show false=true from hs) aV
theorem tV:OpR X (compareOp .NotEq) rNe:=by
 intro pins s σ H x y v u Q I rx ry h;obtain ⟨hs,q⟩:=h;cases x with
 | non =>
   cases rx;cases y with
   | non=>cases ry;exact PySem.EqNone.ne_none_none (dM I q (by simp))
   | bl j=>cases ry;exact PySem.EqNone.ne_none_bool (dM I q (by simp))
   | int j=>obtain ⟨t',rfl⟩:=ry;exact PySem.EqNone.ne_none_int (dM I q (by simp))
   | str j=>obtain ⟨t',rfl⟩:=ry;exact PySem.EqNone.ne_none_str (dM I q (by simp))
   | _=>exact absurd (show false=true from hs) aV
 | bl i =>
   cases rx;cases y with
   | non=>cases ry;exact PySem.EqNone.ne_bool_none (dM I q (by simp))
   | bl j=>cases ry;exact ne_bool (dM I q (congrArg not QY))
   | str j=>obtain ⟨t',rfl⟩:=ry;exact PySem.EqMixed.ne_bool_str (dM I q (by simp))
   | _=>exact absurd (show false=true from hs) aV
 | int i =>
   obtain ⟨t,rfl⟩:=rx;cases y with
   | non=>cases ry;exact PySem.EqNone.ne_int_none (dM I q (by simp))
   | int j=>obtain ⟨t',rfl⟩:=ry;exact ne_int (dM I q (congrArg not MV))
   | str j=>obtain ⟨t',rfl⟩:=ry;exact PySem.EqMixed.ne_int_str (dM I q (by simp))
   | _=>exact absurd (show false=true from hs) aV
 | str i =>
   obtain ⟨t,rfl⟩:=rx;cases y with
   | non=>cases ry;exact PySem.EqNone.ne_str_none (dM I q (by simp))
   | bl j=>cases ry;exact PySem.EqMixed.ne_str_bool (dM I q (by simp))
   | int j=>obtain ⟨t',rfl⟩:=ry;exact PySem.EqMixed.ne_str_int (dM I q (by simp))
   | str j=>obtain ⟨t',rfl⟩:=ry;exact ne_str (dM I q (congrArg not M7))
   | _=>exact absurd (show false=true from hs) aV
 | byt i =>
   obtain ⟨t,rfl⟩:=rx;cases y with
   | byt j=>obtain ⟨t',rfl⟩:=ry;exact PySem.W.ne_bytes (dM I q (congrArg not Ni))
   | _=>exact absurd (show false=true from hs) aV
 | _=>cases y <;> exact absurd (show false=true from hs) aV
theorem uO:OpR X (compareOp .Lt) (rI0 fun i j=>.bl (decide (i<j))):=OO fun _ _ _ _ _ _ _ q=>lt_int q
theorem EE:OpR X (compareOp .LtE) (rI0 fun i j=>.bl (decide (i<=j))):=OO fun _ _ _ _ _ _ _ q=>le_int q
theorem Fv:OpR X (compareOp .Gt) (rI0 fun i j=>.bl (decide (j<i))):=OO fun _ _ _ _ _ _ _ q=>gt_int q
theorem CC:OpR X (compareOp .GtE) (rI0 fun i j=>.bl (decide (j<=i))):=OO fun _ _ _ _ _ _ _ q=>ge_int q
theorem bK (b:Expr) {op:CmpOp} (h:op≠.In:=by decide) (h2:op≠.NotIn:=by decide):behindInMarks op b=false:=by
 have e1:(op == CmpOp.In)=false:=by cases op <;> first|rfl|exact absurd rfl h
 have e2:(op == CmpOp.NotIn)=false:=by cases op <;> first|rfl|exact absurd rfl h2
 cases b <;> simp [behindInMarks,e1,e2]
theorem i9 {op:CmpOp} {r:R2} (ho:OpR X (compareOp op) r) (ha:PE X a ta) (hb:PE X b tb) (hm:behindInMarks op b=false):PE X (.Compare a [op] [b] pos) (tOp r ta tb):=by
 intro pins s σ H Q I h;exact wpAny_Compare1 (Ta ha hb I h fun v u s2 x y H2 I2 rx ry q=>ho pins s2 σ H2 x y v u Q I2 rx ry q) hm
def HW (t:TE):TT:=fun σ H Q=>t σ H fun x H'=>∃ k,x=.bl k/\Q k H'
theorem bW {op:CmpOp} {r:R2} (ho:OpR X (compareOp op) r) (ha:PE X a ta) (hb:PE X b tb) (hm:behindInMarks op b=false):PT X (.Compare a [op] [b] pos) (HW (tOp r ta tb)):=by
 intro pins s σ H Q I h;refine wpAny_isTrue_Compare1 (dB (ha pins s σ H _ I h) fun v s1 x H1 I1 r1 q1=>dB (hb pins s1 σ H1 _ I1 q1) fun u s2 y H2 I2 r2 q2 =>
   dB (ho pins s2 σ H2 x y v u _ I2 r1 r2 q2) fun c s3 z H3 I3 r3 ⟨k,e,q3⟩=>?_) hm
 subst e;cases r3;exact b8 ⟨H3,I3,q3⟩
def E4 (r r':R2) (ta tb tc:TE):TE:=fun σ H Q=>ta σ H fun x H1=>tb σ H1 fun y H2=>r x y H2 fun z H3=>∃ k,z=.bl k /\
 (if k=true then tc σ H3 fun w' H4=>r' y w' H4 Q else Q (.bl false) H3)
theorem Su {op op':CmpOp} {r r':R2} (ho:OpR X (compareOp op) r) (ho':OpR X (compareOp op') r') (ha:PE X a ta) (hb:PE X b tb) (hc:PE X c tc)
   (hm:lastMarks [op,op'] [b,c]=false:=by with_unfolding_all rfl):PE X (.Compare a [op,op'] [b,c] pos) (E4 r r' ta tb tc):=by
 intro pins s σ H Q I h;refine Compare_chain (dB (ha pins s σ H _ I h) fun v s1 x H1 I1 r1 q1=>chain_link (dB (hb pins s1 σ H1 _ I1 q1) fun u s2 y H2 I2 r2 q2 =>
   dB (ho pins s2 σ H2 x y v u _ I2 r1 r2 q2) fun d s3 z H3 I3 r3 ⟨k,e,q3⟩=>?_)) hm
 subst e;cases r3;refine b8 ?_;cases k with
 | false=>exact ite_ff ⟨.bl false,H3,I3,rfl,q3⟩
 | true=>exact ite_tt (chain_last (thn (hc pins s3 σ H3 _ I3 q3) fun w' s4 ⟨z',H4,I4,r4,q4⟩=>ho' pins s4 σ H4 y z' u w' Q I4 r2 r4 q4))
theorem Jt {op op':CmpOp} {r r':R2} (ho:OpR X (compareOp op) r) (ho':OpR X (compareOp op') r') (ha:PE X a ta) (hb:PE X b tb) (hc:PE X c tc)
   (hm:lastMarks [op,op'] [b,c]=false:=by with_unfolding_all rfl):PT X (.Compare a [op,op'] [b,c] pos) (HW (E4 r r' ta tb tc)):=by
 intro pins s σ H Q I h;refine isTrue_chain (dB (ha pins s σ H _ I h) fun v s1 x H1 I1 r1 q1=>test_link (dB (hb pins s1 σ H1 _ I1 q1) fun u s2 y H2 I2 r2 q2 =>
   dB (ho pins s2 σ H2 x y v u _ I2 r1 r2 q2) fun d s3 z H3 I3 r3 ⟨k,e,q3⟩=>?_)) hm
 subst e;cases r3;refine b8 ?_;cases k with
 | false =>
   obtain ⟨k',e',q'⟩:=q3;cases e';exact ite_ff ⟨H3,I3,q'⟩
 | true =>
   refine ite_tt (test_last (thn (hc pins s3 σ H3 _ I3 q3) fun w' s4 ⟨z',H4,I4,r4,q4⟩=>thn (ho' pins s4 σ H4 y z' u w' _ I4 r2 r4 q4) fun d' s5 ⟨z2,H5,I5,r5,k2,e2,q5⟩=>?_));subst e2;cases r5;exact b8 ⟨H5,I5,q5⟩
def Vw (K:PySem.W.Frag) (x:V) (H:Hp) (k:Bool):Prop :=
 match x with
 | .non=>k=false
 | .bl b=>k=b
 | .int i=>k=(i != 0)
 | .str y=>y.length<=sizeLine/\k=((y.length:Int) != 0)
 | .byt y=>y.size<=sizeLine/\k=((y.size:Int) != 0)
 | .ref p=>(∃ xs,SqL K H p xs/\k=!xs.isEmpty)\/(∃ xs,SqT K H p xs/\k=!xs.isEmpty)\/∃ kvs,H p=some (.dK kvs)/\k=!kvs.isEmpty
 | _=>False
theorem NC {κ:Type} {kvs:List (κ × V)} {vs:List (κ × Value)} (r:KV kvs vs):(!vs.isEmpty)=!kvs.isEmpty:=by
 cases r <;> rfl
theorem FE {xs:List V} {its:List Value} (r:Vals xs its):(!its.toArray.isEmpty)=!xs.isEmpty:=by
 cases r <;> simp
theorem vK:(sizeLine:Nat)<2^63:=by rw [sizeLine_eq];decide
theorem Vo:WP X (fun x H Q=>∃ k,Vw X.K x H k/\Q k H):=by
 intro pins s σ H x v Q I rx h;obtain ⟨k,e,q⟩:=h;have hl:=vK;have hs:sizeLine=16777216:=sizeLine_eq;cases x with
 | non =>
   cases rx;have e':k=false:=e;subst e';exact truthy_none ⟨H,I,q⟩
 | bl b =>
   cases rx;have e':k=b:=e;subst e';exact b8 ⟨H,I,q⟩
 | int i =>
   obtain ⟨t,rfl⟩:=rx;have e':k=(i != 0):=e;subst e';exact PySem.P.truthy_int ⟨H,I,q⟩
 | str y =>
   obtain ⟨t,rfl⟩:=rx;obtain ⟨hy,e'⟩:y.length<=sizeLine/\k=((y.length:Int) != 0):=e;subst e';exact PySem.P.truthy_str (by omega) ⟨H,I.tok _,q⟩
 | byt y =>
   obtain ⟨t,rfl⟩:=rx;obtain ⟨hy,e'⟩:y.size<=sizeLine/\k=((y.size:Int) != 0):=e;subst e';exact PySem.W.truthy_bytes (by omega) ⟨H,I.tok _,q⟩
 | ref p =>
   cases rx;have e':(∃ xs,SqL X.K H p xs/\k=!xs.isEmpty)\/(∃ xs,SqT X.K H p xs/\k=!xs.isEmpty)\/∃ kvs,H p=some (.dK kvs)/\k=!kvs.isEmpty:=e;rcases e' with ⟨xs,hx,e'⟩|⟨xs,hx,e'⟩|⟨kvs,hx,e'⟩
   . subst e';obtain ⟨its,r,pl,hz⟩:=I.list hx;have hlen:=r.length;exact wpAny_truthy_list pl.isList (by simp only [aD];omega) ⟨H,I.tok _,by rw [FE r];exact q⟩
   . subst e';obtain ⟨its,r,pl,hz⟩:=I.tuple hx;have hlen:=r.length;exact truthy_tuple pl (by simp only [aD];omega) ⟨H,I.tok _,by rw [FE r];exact q⟩
   . subst e';obtain ⟨hz,hS,vs,r,m⟩:kvs.length<=sizeLine/\(p == sysModules)=false/\∃ vs,KV kvs vs/\s.heap.DictOf (bz X.prog X.w) p vs:=I.hok p _ hx;have hlen:kvs.length=vs.length:=Paired.length r;exact wpAny_truthy_dict hS m (by omega) ⟨H,I.tok _,by rw [NC r];exact q⟩
 | _=>exact (show False from e).elim
theorem Ex (ha:PE X a ta) (he:∀ whole,isTrue a X.env whole=(do let v <- whole;standAt a.pos;holding [v] (truthy v))) :
   PT X a (fun σ H Q=>ta σ H fun x H'=>∃ k,Vw X.K x H' k/\Q k H'):=by
 intro pins s σ H Q I h;exact isTrue_plain (dB (ha pins s σ H _ I h) fun v s1 x H1 I1 r1 q1=>Vo pins s1 σ H1 x v Q I1 r1 q1) (he _)
theorem wK {x:V} {us:List Value} (r:Vals [x] us):∃ u,us=[u]/\RelV x u:=by
 cases r with
 | cons r1 r2=>cases r2;exact ⟨_,rfl,r1⟩
theorem NM {x y:V} {us:List Value} (r:Vals [x,y] us):∃ u w',us=[u,w']/\RelV x u/\RelV y w':=by
 cases r with
 | cons r1 r2 =>
   cases r2 with
   | cons r3 r4=>cases r4;exact ⟨_,_,rfl,r1,r3⟩
theorem PF (hc:X.calm=true):qb X (.builtin "max") (fun xs H Q=>∃ i j,xs=[.int i,.int j]/\Q (.int (if j > i then j else i)) H):=by
 intro pins s σ H xs us Q I r h;obtain ⟨i,j,rfl,q⟩:=h;obtain ⟨u,w',rfl,⟨t,rfl⟩,⟨t',rfl⟩⟩:=NM r;refine max_two_ints (I.ok.hd hc) fun h' tk k=>⟨_,H,I.kept k,?_,q⟩;by_cases hj:j > i
 . rw [ag hj,ag hj];exact ⟨_,rfl⟩
 . rw [aa hj,aa hj];exact ⟨_,rfl⟩
theorem P1 (hc:X.calm=true):qb X (.builtin "min") (fun xs H Q=>∃ i j,xs=[.int i,.int j]/\Q (.int (if j<i then j else i)) H):=by
 intro pins s σ H xs us Q I r h;obtain ⟨i,j,rfl,q⟩:=h;obtain ⟨u,w',rfl,⟨t,rfl⟩,⟨t',rfl⟩⟩:=NM r;refine min_two_ints (I.ok.hd hc) fun h' tk k=>⟨_,H,I.kept k,?_,q⟩;by_cases hj:j<i
 . rw [ag hj,ag hj];exact ⟨_,rfl⟩
 . rw [aa hj,aa hj];exact ⟨_,rfl⟩
end
end L2
namespace L2
open PySem PySem.Spec PyProof.Rows
structure ObjM (h:Heap) (x dx C:Addr) (mA:Str->Option Value):Prop where
 obj:h.get? x=some (PySem.W.instObj C dx)
 ns:h.Ns1 dx mA
 ne:dx≠x
theorem PP {h:Heap} {dx:Addr} {mA:Str->Option Value} (n:h.Ns1 dx mA):∃ od,h.get? dx=some od/\∀ name,PySem.W.lookIn name od=some (mA name):=by
 obtain ⟨o,es,ep,ho,hd,hk,_,hm⟩:=n;refine ⟨o,ho,fun name=>?_⟩;have e:=hm name;unfold nsFind findBy at e;rw [<- Array.find?_toList] at e;unfold PySem.W.lookIn;rw [hd];dsimp only;split
 . rename_i y q
   rw [q] at e;exact congrArg some e
 . rename_i q
   rw [q] at e;have a:es.toList.any (·.refKey)=false:=by
     rw [List.any_eq_false];intro y hy;obtain ⟨z,t,hkey⟩:=hk y (Array.mem_toList_iff.mp hy);simp [DictEntry.refKey,hkey]
   have a':¬ es.toList.any (·.refKey)=true:=by rw [a];exact aV
   rw [aa a'];exact congrArg some e
theorem ObjM.look {h:Heap} {x dx C:Addr} {mA:Str->Option Value} (I:ObjM h x dx C mA):∃ od,PySem.W.InstAt h x (PySem.W.instObj C dx) C (some od)/\∀ name,PySem.W.lookIn name od=some (mA name) :=
 let ⟨od,ho,hl⟩:=PP I.ns
 ⟨od,⟨I.obj,rfl,rfl,ho⟩,hl⟩
section
variable {prog:Program} {w:World} {A:Around} {E:Value->Shared->Prop} {s:Shared} {K:PySem.W.Frag} {x dx C f:Addr} {mA:Str->Option Value} {name:Str} {v:Value}
theorem UK {expr:Bool} {Q:Value->Shared->Prop} (X:K.In s.heap) (I:ObjM s.heap x dx C mA) (hg:PySem.W.plainGet K C name=true) (hh:PySem.W.hasDictIn K C=true)
   (ha:PySem.W.findIn K (.ref C) name=some none) (hv:mA name=some v) (hv':PySem.W.handedIn v=true) (h:Q v { s with toks:=s.toks+1 }) :
   wpAny (model prog w) A (getAttr (.ref x) name expr) Q E s:=by
 obtain ⟨od,J,hl⟩:=I.look;exact PySem.W.get_value X J (PySem.W.plainGet_of hg).1 (PySem.W.findObj_own hh ha rfl (by rw [hl,hv])) hv' h
theorem UX {ns:List Str} {Q:Unit->Shared->Prop} (X:K.In s.heap) (I:ObjM s.heap x dx C mA)
   (hs:PySem.W.findIn K (.ref C) "__setattr__"=some (some (.builtin "object.__setattr__"))) (hp:PySem.W.plainOver K C=true) (ht:PySem.W.takerIn K C name=some none) (hh:PySem.W.hasDictIn K C=true)
   (hw:PySem.Within mA ns) (hsz:ns.length<=sizeLine)
   (h:∀ h',ObjM h' x dx C (fun y=>if y=name then some v else mA y)->Heap.SameBut dx s.heap h'->Q () { s with heap:=h',toks:=s.toks+2 }) :
   wpAny (model prog w) A (setAttr (.ref x) name v) Q E s:=by
 obtain ⟨od,J,hl⟩:=I.look;refine PySem.W.set_plain X J hs (PySem.W.osa_open (s:={ s with toks:=s.toks+1 }) (r:=none) X J hp ht fun b=>?_);obtain ⟨cd,hc,hd'⟩:=PySem.W.any_some hh;have hx:s.heap.get? x=some ⟨.ref C,some dx,.plain,#[]⟩:=I.obj;refine aj (ap (aj (aj (wpAny_loadPart hx (aj (PySem.W.Looks.here (s:={ s with toks:=s.toks+1 }) (PySem.W.looks_clsIn X hc) ?_))))));rw [hd'];refine ap (a:=some dx) (aj (ap (aj ?_)));refine wpAny_nsSet1 (s:={ s with toks:=s.toks+1 }) I.ns fun h' hn2 hs2=>?_;obtain ⟨oD,esD,epD,hoD,hdD,hcD⟩:=hn2.count (PySem.Within.cons name v hw);refine aj (wpAny_lookBehind hoD (by rw [hdD];exact pastItsLine_dict (bq hcD (by rw [aL];omega))) ?_);exact ap (h _ ⟨(hs2.2 _ (Ne.symm I.ne)).trans I.obj,hn2,I.ne⟩ hs2)
theorem Sw {R:Result->Shared->Prop} {vs:List Value} {kw:List (Str × Value)} (X:K.In s.heap) (hm:PySem.W.makesIn K C=true)
   (hi:PySem.W.findIn K (.ref C) "__init__"=some (some (.ref f))) (hf:PySem.W.typeIn K (.ref f)=some (.type "function"))
   (h:codeAny (model prog w) (A.under (.builtin "type.__call__" ⟨.ref C::vs,kw⟩)) (.call (.ref f) ⟨.ref (s.heap.objs.size+1)::vs,kw⟩) (PySem.W.InitBack (s.heap.objs.size+1) R)
     { s with heap:=(s.heap.push PySem.W.emptyDict).push (PySem.W.instObj C s.heap.objs.size) }) :
   codeAny (model prog w) A (.call (.ref C) ⟨vs,kw⟩) R s:=by
 obtain ⟨hh,g,d,t,os⟩:=s;exact PySem.W.make_core (PySem.W.makes_of X hm) (PySem.W.looks_findIn X hi) (fun self=>PySem.W.bind_fn X self hf) (.inl rfl) h
end
def ow (f:Str) (v:V):List (Str × V)->List (Str × V)
 | []=>[(f,v)]
 | (g,x)::r=>if g=f then (g,v)::r else (g,x)::ow f v r
theorem qP (f g:Str) (v:V):∀ fs:List (Str × V),(ow f v fs).lookup g=if g=f then some v else fs.lookup g
 | []=>by
   show List.lookup g [(f,v)]=_;by_cases h:g=f
   . have hb:(g == f)=true:=g6.mpr h;simp only [List.lookup,hb,ag h]
   . have hb:(g == f)=false:=beq_eq_false_iff_ne.mpr h;simp only [List.lookup,hb,aa h]
 | (k,x)::r=>by
   have ih:=qP f g v r;rw [show ow f v ((k,x)::r)=(if k=f then (k,v)::r else (k,x)::ow f v r) from rfl];by_cases hk:k=f
   . rw [ag hk];by_cases h:g=k
     . have hb:(g == k)=true:=g6.mpr h;simp only [List.lookup,hb,ag (h.trans hk)]
     . have hb:(g == k)=false:=beq_eq_false_iff_ne.mpr h;simp only [List.lookup,hb,aa (fun e:g=f=>h (e.trans hk.symm))]
   . rw [aa hk];by_cases h:g=k
     . have hb:(g == k)=true:=g6.mpr h;simp only [List.lookup,hb,aa (fun e:g=f=>hk (h.symm.trans e))]
     . have hb:(g == k)=false:=beq_eq_false_iff_ne.mpr h;simp only [List.lookup,hb];exact ih
theorem Ci (f:Str) (v:V):∀ fs:List (Str × V),f∈(ow f v fs).map (·.1)/\∀ g,g∈fs.map (·.1)->g∈(ow f v fs).map (·.1)
 | []=>⟨by simp [ow],fun g h=>by simp at h⟩
 | (k,x)::r=>by
   obtain ⟨i1,i2⟩:=Ci f v r;rw [show ow f v ((k,x)::r)=(if k=f then (k,v)::r else (k,x)::ow f v r) from rfl];by_cases hk:k=f
   . rw [ag hk];subst hk;exact ⟨by simp,fun g h=>by simpa using h⟩
   . rw [aa hk];refine ⟨?_,fun g h=>?_⟩
     . rw [aK];exact ak _ i1
     . rw [aK] at h ⊢;rcases az.mp h with e|e
       . exact az.mpr (.inl e)
       . exact ak _ (i2 g e)
theorem Dd (f:Str) (v:V):∀ fs:List (Str × V),(ow f v fs).length<=fs.length+1
 | []=>by simp [ow]
 | (k,x)::r=>by
   have ih:=Dd f v r;rw [show ow f v ((k,x)::r)=(if k=f then (k,v)::r else (k,x)::ow f v r) from rfl];by_cases hk:k=f
   . rw [ag hk,aL,aL];omega
   . rw [aa hk,aL,aL];omega
theorem RelO.some_of {v:V} {o:Option Value} (r:RelO (some v) o):∃ u,o=some u/\RelV v u:=by
 cases o with
 | none=>exact (show False from r).elim
 | some u=>exact ⟨u,rfl,r⟩
theorem Pg {v:V} {u:Value} (r:RelV v u):PySem.W.handedIn u=true:=by
 cases v with
 | non=>cases (show u=Value.none from r);rfl
 | bl b=>cases (show u=Value.bool b from r);rfl
 | int i=>obtain ⟨t,e⟩:=(show ∃ t,u=Value.int i t from r);cases e;rfl
 | str x=>obtain ⟨t,e⟩:=(show ∃ t,u=Value.str x t from r);cases e;rfl
 | byt b=>obtain ⟨t,e⟩:=(show ∃ t,u=Value.bytes b t from r);cases e;rfl
 | flt b=>obtain ⟨t,e⟩:=(show ∃ t,u=Value.float b t from r);cases e;rfl
 | ref a=>cases (show u=Value.ref a from r);rfl
 | ty n=>cases (show u=Value.type n from r);rfl
section
variable {P:Program} {w:World} {H H':Hp} {h h':Heap} {a C dx:Addr} {fs fs':List (Str × V)}
theorem F7 (hok:HOk P w H h) (e:H a=some (.ins C dx fs)):∃ mA,ObjM h a dx C mA/\(∀ f,RelO (fs.lookup f) (mA f))/\PySem.Within mA (fs.map (·.1))/\fs.length<=1000/\H dx=some (.own a):=by
 obtain ⟨d,z,ne,ob,mA,n,r,q⟩:=(show ObjOk P w H h a (.ins C dx fs) from hok a _ e);exact ⟨mA,⟨ob,n,ne⟩,r,q,z,d⟩
end
structure Cls (K:PySem.W.Frag) (C:Addr):Prop where
 pg:PySem.W.plainGet K C Str.empty=true
 hd:PySem.W.hasDictIn K C=true
 po:PySem.W.plainOver K C=true
 sa:PySem.W.findIn K (.ref C) "__setattr__"=some (some (.builtin "object.__setattr__"))
theorem Cls.get {K:PySem.W.Frag} {C:Addr} (c:Cls K C) (f:Str):PySem.W.plainGet K C f=true:=c.pg
def NoAttr (K:PySem.W.Frag) (C:Addr) (f:Str):Prop:=PySem.W.findIn K (.ref C) f=some none
theorem NoAttr.taker {K:PySem.W.Frag} {C:Addr} {f:Str} (n:NoAttr K C f):PySem.W.takerIn K C f=some none:=by
 unfold PySem.W.takerIn;rw [show PySem.W.findIn K (.ref C) f=some none from n]
 rfl
section
variable {X:Cx} {pins:List (Addr × Obj)} {σ:St} {H:Hp} {s:Shared} {a C dx:Addr} {fs:List (Str × V)} {f:Str} {v:V} {A:Around} {E:Value->Shared->Prop}
theorem Nv {b:Bool} {Q:Value->Shared->Prop} (I:Inv X pins σ H s) (e:H a=some (.ins C dx fs)) (c:Cls X.K C) (n:NoAttr X.K C f) (l:fs.lookup f=some v)
   (h:∀ u s',Inv X pins σ H s'->RelV v u->Q u s'):wpAny (model X.prog X.w) A (getAttr (.ref a) f b) Q E s:=by
 obtain ⟨mA,O,r,_,_,_⟩:=F7 I.hok e;obtain ⟨u,hu,ru⟩:=RelO.some_of (v:=v) (o:=mA f) (by rw [<- l];exact r f);exact UK I.kIn O (c.get f) c.hd n hu (Pg ru) (h u _ (I.tok _) ru)
theorem Ox {y:V} {u:Value} {Q:Unit->Shared->Prop} (I:Inv X pins σ H s) (e:H a=some (.ins C dx fs)) (c:Cls X.K C) (n:NoAttr X.K C f) (hl:fs.length<1000) (ry:RelV y u)
   (h:∀ s',Inv X pins σ (upd H a (.ins C dx (ow f y fs))) s'->Q () s'):wpAny (model X.prog X.w) A (setAttr (.ref a) f u) Q E s:=by
 obtain ⟨mA,O,r,wi,_,ho⟩:=F7 I.hok e;have hz:(fs.map (·.1)).length<=sizeLine:=by rw [ai,sizeLine_eq];omega
 refine UX I.kIn O c.sa c.po n.taker c.hd wi hz fun h' O' sb=>h _ ?_;have hd:∃ o,h'.get? dx=some o:=let ⟨o,_,_,e',_⟩:=O'.ns;⟨o,e'⟩;refine I.write (x:=a) (e:=dx) (by rw [e];exact True.intro) (.inr ho) (fun b q hb z=>(sb.2 b hb).trans z) hd ?_;refine ⟨by rw [aX O.ne];exact ho,?_,O.ne,O'.obj,_,O'.ns,fun g=>?_,fun g hg=>?_⟩
 . have:=Dd f y fs;omega
 . show RelO ((ow f y fs).lookup g) (if g=f then some u else mA g);rw [qP];by_cases q:g=f
   . rw [ag q,ag q];exact ry
   . rw [aa q,aa q];exact r g
 . by_cases q:g=f
   . rw [q];exact (Ci f y fs).1
   . refine (Ci f y fs).2 g (wi g fun z=>hg ?_);show (if g=f then some u else mA g)=none;rw [aa q];exact z
theorem Inv.made (I:Inv X pins σ H s):Inv X pins σ (upd (upd H s.heap.objs.size (.own (s.heap.objs.size+1))) (s.heap.objs.size+1) (.ins C s.heap.objs.size []))
   { s with heap:=(s.heap.push PySem.W.emptyDict).push (PySem.W.instObj C s.heap.objs.size) }:=by
 have e1:(s.heap.push PySem.W.emptyDict).get? s.heap.objs.size=some PySem.W.emptyDict:=bg s.heap rfl;have e2:((s.heap.push PySem.W.emptyDict).push (PySem.W.instObj C s.heap.objs.size)).get? (s.heap.objs.size+1)=some (PySem.W.instObj C s.heap.objs.size):=by
   have:=bg (s.heap.push PySem.W.emptyDict) (o:=PySem.W.instObj C s.heap.objs.size) rfl
   rwa [jA] at this
 have e3:(s.heap.push PySem.W.emptyDict).Ns s.heap.objs.size (fun _=>none):=⟨PySem.W.emptyDict,#[],_,e1,rfl,(fun e he=>absurd he (by simp)),fun _=>rfl⟩;have I1:=I.laid (a:=s.heap.objs.size) (o:=.own (s.heap.objs.size+1)) (h':=s.heap.push PySem.W.emptyDict) (t':=s.toks) (fun b u q=>aJ _ q) (aI _) ⟨_,e1⟩;refine I1.laid (a:=s.heap.objs.size+1) (o:=.ins C s.heap.objs.size []) (t':=s.toks) (fun b u q=>aJ _ q) (Nat.le_of_eq (jA _ _)) ?_;have ne:s.heap.objs.size≠s.heap.objs.size+1:=aO (eJ _);refine ⟨by rw [aX ne,ao],bo _,ne,e2,fun _=>none,(Heap.Ns1.of_empty e3).at fun o q=>aJ _ q,fun _=>True.intro,fun y hy=>absurd rfl hy⟩
theorem UE {prog:Program} {w:World} {env:Env} {e:Expr} {f:Str} {pos:Pos} {s:Shared} {Q:Value->Shared->Prop} (hb:attributeBase e f env (eval e env)=eval e env)
   (h:wpAny (model prog w) A (eval e env) (fun o s₁=>wpAny (model prog w) A (getAttr o f true) Q E s₁) E s):wpAny (model prog w) A (eval (.Attribute e f pos) env) Q E s :=
 Attribute_any_ h (by rw [arm_eval_Attribute,hb])
end
def RU (K:PySem.W.Frag) (ta:TE) (f:Str):TE:=fun σ H Q=>ta σ H fun x H1=>∃ a C dx fs v,x=.ref a/\H1 a=some (.ins C dx fs)/\Cls K C/\NoAttr K C f/\fs.lookup f=some v/\Q v H1
def RS (K:PySem.W.Frag) (ta tv:TE) (f:Str):TS:=fun D σ H=>tv σ H fun y H1=>ta σ H1 fun x H2=>∃ a C dx fs,x=.ref a/\H2 a=some (.ins C dx fs)/\Cls K C/\NoAttr K C f/\fs.length<1000 /\
 D.nx σ (upd H2 a (.ins C dx (ow f y fs)))
section
variable {X:Cx} {o e value:Expr} {f:Str} {pos pos' tpos:Pos} {ta tv:TE}
theorem vd (he:PE X e ta) (hb:attributeBase e f X.env (eval e X.env)=eval e X.env):PE X (.Attribute e f pos) (RU X.K ta f):=by
 intro pins s σ H Q I h;refine UE hb (dB (he pins s σ H _ I h) fun u s1 x H1 I1 rx ⟨a,C,dx,fs,v,ex,ea,c,n,l,q⟩=>?_);subst ex;obtain rfl:u=Value.ref a:=rx;exact Nv I1 ea c n l fun u' s2 I2 ru=>⟨v,H1,I2,ru,q⟩
theorem QN (ha:PE X o ta) (hv:PE X value tv) (hs:swapsWith value (some (.Attribute o f pos')) pos.line X.env=pure false):PS X (.Assign [.Attribute o f pos'] value pos) (RS X.K ta tv f):=by
 intro pins s σ H D I h;refine plainObj_wpAny_Assign_Attribute (dB (hv pins s σ H _ I h) fun u s1 y H1 I1 ry q=>dB (ha pins s1 σ H1 _ I1 q) fun ov s2 x H2 I2 rx ⟨a,C,dx,fs,ex,ea,c,n,l,q2⟩=>?_) hs;subst ex;obtain rfl:ov=Value.ref a:=rx;exact Ox I2 ea c n l ry fun s3 I3=>⟨σ,_,I3,q2⟩
end
section
variable {X:Cx} {pins:List (Addr × Obj)} {σ:St} {H:Hp} {s:Shared} {A:Around} {E:Value->Shared->Prop} {Q:Value->Shared->Prop} {c:Value} {b:Bool}
inductive TyOf (K:PySem.W.Frag) (H:Hp):V->Value->Prop where
 | non:TyOf K H .non (.type "NoneType")
 | bl (x:Bool):TyOf K H (.bl x) (.type "bool")
 | int (i:Int):TyOf K H (.int i) (.type "int")
 | str (x:Str):TyOf K H (.str x) (.type "str")
 | flt (x:UInt64):TyOf K H (.flt x) (.type "float")
 | lst {a:Addr} {xs:List V} (e:H a=some (.lst xs)):TyOf K H (.ref a) (.type "list")
 | frz {a:Addr} {o:Obj} {xs:List V} (e:H a=some (.frz o (.lst xs))):TyOf K H (.ref a) (.type "list")
 | tup {a:Addr} {xs:List V} (e:H a=some (.tup xs)):TyOf K H (.ref a) (.type "tuple")
 | dK {a:Addr} {kvs:List (Key × V)} (e:H a=some (.dK kvs)):TyOf K H (.ref a) (.type "dict")
 | dT {a:Addr} {kvs:List (List Key × V)} (e:H a=some (.dT kvs)):TyOf K H (.ref a) (.type "dict")
 | ins {a C dx:Addr} {fs:List (Str × V)} (e:H a=some (.ins C dx fs)) (cl:Cls K C) (ha:PySem.W.findIn K (.ref C) "__class__"=some (some (.builtin "object.__class__")))
     (hn:PySem.W.specialIn K (.builtin "object.__class__") "__get__"=some (some (.builtin "getset_descriptor.__get__"))) (htk:PySem.W.takesIn K (.builtin "object.__class__")=some true)
     (hm:PySem.W.mroIn K C (.type "object")=some true):TyOf K H (.ref a) (.ref C)
theorem Qh {x:V} {u t:Value} (I:Inv X pins σ H s) (rx:RelV x u) (ty:TyOf X.K H x t) (e:PySem.W.kitOne X.K t c=some b) (h:∀ tk,Q (.bool b) { s with toks:=tk }) :
   wpAny (model X.prog X.w) A (call (.builtin "isinstance") [u,c]) Q E s:=by
 cases ty with
 | non=>cases (show u=Value.none from rx);exact cf PySem.W.kitx_none I.kIn True.intro e (fun z=>nomatch z) h
 | bl y=>cases (show u=Value.bool y from rx);exact cf PySem.W.kitx_bool I.kIn True.intro e (fun z=>nomatch z) h
 | int i=>obtain ⟨t,q⟩:=(show ∃ t,u=Value.int i t from rx);cases q;exact cf PySem.W.kitx_int I.kIn True.intro e (fun z=>nomatch z) h
 | str y=>obtain ⟨t,q⟩:=(show ∃ t,u=Value.str y t from rx);cases q;exact cf PySem.W.kitx_str I.kIn True.intro e (fun z=>nomatch z) h
 | flt y=>obtain ⟨t,q⟩:=(show ∃ t,u=Value.float y t from rx);cases q;exact cf PySem.W.kitx_float I.kIn True.intro e (fun z=>nomatch z) h
 | @lst a xs ea =>
   cases (show u=Value.ref a from rx);obtain ⟨_,_,n,_,h1⟩:=(show ObjOk X.prog X.w H s.heap a (.lst xs) from I.hok a _ ea);exact cf PySem.W.kitx_list I.kIn ⟨_,h1,rfl⟩ e (fun z=>nomatch z) h
 | @frz a ob xs ea =>
   cases (show u=Value.ref a from rx);obtain ⟨_,_,_,n,_,h1⟩:=(show ObjOk X.prog X.w H s.heap a (.frz ob (.lst xs)) from I.hok a _ ea);exact cf PySem.W.kitx_list I.kIn ⟨_,h1,rfl⟩ e (fun z=>nomatch z) h
 | @tup a xs ea =>
   cases (show u=Value.ref a from rx);obtain ⟨_,_,_,p⟩:=(show ObjOk X.prog X.w H s.heap a (.tup xs) from I.hok a _ ea);obtain ⟨o,h1,h2,_⟩:=p;exact cf PySem.W.kitx_tuple I.kIn ⟨o,h1,h2⟩ e (fun z=>nomatch z) h
 | @dK a kvs ea =>
   cases (show u=Value.ref a from rx);obtain ⟨_,_,vs,_,p⟩:=(show ObjOk X.prog X.w H s.heap a (.dK kvs) from I.hok a _ ea);obtain ⟨o,es,ep,h1,h2,_⟩:=p;exact cf PySem.W.kitx_dict I.kIn ⟨o,h1,h2.1⟩ e (fun z=>nomatch z) h
 | @dT a kvs ea =>
   cases (show u=Value.ref a from rx);obtain ⟨_,_,xs,_,o,es,ep,h1,h2,_⟩:=(show ObjOk X.prog X.w H s.heap a (.dT kvs) from I.hok a _ ea);exact cf PySem.W.kitx_dict I.kIn ⟨o,h1,h2.1⟩ e (fun z=>nomatch z) h
 | @ins a C dx fs ea cl ha hn htk hm =>
   cases (show u=Value.ref a from rx);obtain ⟨mA,O,_⟩:=F7 I.hok ea;obtain ⟨od,J,_⟩:=O.look;exact cf (PySem.W.kitx_own (cl.get _) cl.hd ha hn htk hm) I.kIn J e (fun z=>nomatch z) h
end
end L2
namespace L2
open PySem PySem.Spec PyProof.Rows
structure Room (k:Nat) (A:Around):Prop where
 hd:A.handled=none
 dp:A.depth+3*k+5<recursionLimit
 un:A.units+16*k+200<cLine
theorem Room.mono {j k:Nat} {A:Around} (r:Room k A) (h:j<=k):Room j A:=⟨r.hd,by have:=r.dp;omega,by have:=r.un;omega⟩
theorem Room.deeper {k:Nat} {A:Around} (r:Room (k+1) A) (env:Env):Room k (A.deeper env) :=
 ⟨r.hd,by have:=r.dp;show A.depth+1+3*k+5<_;omega,by have:=r.un;show A.units+3+16*k+200<_;omega⟩
theorem Oi {A:Around} {C:Addr} {us:List Value} {kw:List (Str × Value)}:(A.under (.builtin "type.__call__" ⟨.ref C::us,kw⟩)).depth=A.depth+1:=by
 first|rfl|simp [Around.under,Code.weight,Code.isCreation,Code.isGuard,Code.isCaller,Code.frames,Code.isFrame,guardIds]
theorem OU {A:Around} {C:Addr} {us:List Value} {kw:List (Str × Value)}:(A.under (.builtin "type.__call__" ⟨.ref C::us,kw⟩)).units=A.units+1:=by
 first|rfl|simp [Around.under,Code.cUnits,Code.frames,Code.isFrame]
theorem Room.make {k:Nat} {A:Around} (r:Room (k+1) A) (C:Addr) (us:List Value) (kw:List (Str × Value)):Room k (A.under (.builtin "type.__call__" ⟨.ref C::us,kw⟩)) :=
 ⟨r.hd,by have:=r.dp;rw [Oi];omega,by have:=r.un;rw [OU];omega⟩
theorem Room.depth {k:Nat} {A:Around} (r:Room k A):A.depth<recursionLimit:=by have:=r.dp;omega
theorem Room.units {k:Nat} {A:Around} (r:Room k A):A.units+64<cLine:=by have:=r.un;omega
def tNil:TA:=fun _ H Q=>Q [] H
def Oj (ta:TE) (tr:TA):TA:=fun σ H Q=>ta σ H fun x H1=>tr σ H1 fun xs H2=>Q (x::xs) H2
section
variable {X:Cx} {e:Expr} {es:List Expr} {te:TE} {t:TA} {pos:Pos}
theorem am:PA X [] tNil:=fun _ _ _ _ H Q I h=>kG ⟨[],H,I,.nil,h⟩
theorem ah (ha:PE X e te) (hr:PA X es t) (hs:starEach (e::es) X.env=(false,eval e X.env)::starEach es X.env:=by rfl):PA X (e::es) (Oj te t):=by
 intro pos pins s σ H Q I h;rw [hs];show wpAny _ _ (spliced ((false,eval e X.env)::backTo pos (starEach es X.env))) _ _ s;refine jR (dB (ha pins s σ H _ I h) fun u s1 x H1 I1 r1 q1=>?_);exact xq (hr pos pins s1 σ H1 _ I1 q1) fun us s2 xs H2 I2 r2 q2=>⟨x::xs,H2,I2,.cons r1 r2,q2⟩
def Rf (t:TA):TE:=fun σ H Q=>t σ H fun xs H1=>xs.length<=sizeLine/\∀ p,H1 p=none->Q (.ref p) (upd H1 p (.tup xs))
def SL (t:TA):TE:=fun σ H Q=>t σ H fun xs H1=>xs.length<=sizeLine/\∀ p,H1 p=none->Q (.ref p) (upd H1 p (.lst xs))
theorem fJ {x1} (h:PA X es t):PE X (.Tuple es x1 pos) (Rf t):=by
 intro pins s σ H Q I hq;refine wpAny_Tuple_spliced (xq (h pos pins s σ H _ I hq) fun us s1 xs H1 I1 r ⟨z,q⟩=>⟨by rw [<- r.length];exact z,?_⟩);have hf:H1 s1.heap.objs.size=none:=I1.hok.fresh (aI _);refine ⟨.ref s1.heap.objs.size,upd H1 s1.heap.objs.size (.tup xs),I1.laid (t':=s1.toks) (fun b u e=>aJ _ e) (aI _) ?_,rfl,q _ hf⟩;exact ⟨z,us,r,⟨_,bg _ rfl,rfl,_,rfl⟩⟩
theorem gZ (h:PA X es t):PE X (.List es pos) (SL t):=by
 intro pins s σ H Q I hq;refine wpAny_List_spliced (xq (h pos pins s σ H _ I hq) fun us s1 xs H1 I1 r ⟨z,q⟩=>⟨by rw [<- r.length];exact z,?_⟩);have hf:H1 s1.heap.objs.size=none:=I1.hok.fresh (aI _);refine ⟨.ref s1.heap.objs.size,upd H1 s1.heap.objs.size (.lst xs),I1.laid (t':=s1.toks) (fun b u e=>aJ _ e) (aI _) ?_,rfl,q _ hf⟩;exact ⟨z,us,0,r,bg _ rfl⟩
end
abbrev Sp:=List V->Hp->VK->XK->Prop
abbrev CXT:=List Env->Hp->Shared->XK->Value->Shared->Prop
structure Env0 (P:Program) (w:World) (K:PySem.W.Frag) (mg:Str->Option Value) (base:Heap) (A:Around) (outer:List Env) (s:Shared) (H:Hp):Prop where
 frames:A.frames=some outer
 mod:Mod K mg base
 bs:∀ b o,base.get? b=some o->s.heap.get? b=some o/\H b=none
 bsz:base.objs.size<=s.heap.objs.size
 funs:s.heap.FunFrames base outer
 frf:∀ b∈frs outer,H b=none
 hok:HOk P w H s.heap
 bare:AllBare s.gens
def CE (outer:List Env) (P:Program) (w:World) (H:Hp) (s:Shared) (Q:VK) (u:Value) (s':Shared):Prop :=
 ∃ v H',s'.os=s.os/\AllBare s'.gens/\Un (frs outer) [] H H' s.heap s'.heap/\HOk P w H' s'.heap/\RelV v u/\Q v H'
def CR (CX:CXT) (outer:List Env) (P:Program) (w:World) (H:Hp) (s:Shared) (Q:VK) (E:XK) (r:Result) (s':Shared):Prop :=
 match r with
 | .ok (.ret u)=>CE outer P w H s Q u s'
 | .ok _=>False
 | .error e=>CX outer H s E e s'
structure FnOk (P:Program) (w:World) (K:PySem.W.Frag) (mg:Str->Option Value) (base:Heap) (CX:CXT) (k:Nat) (f:Addr) (fd:FuncData) (ps:List Str) (sp:Sp):Prop where
 len:∀ vs H Q E,sp vs H Q E->vs.length=ps.length
 run:∀ (A:Around) (outer:List Env) (s:Shared) (H:Hp) (args:Args) (us:List Value) (vs:List V) (Q:VK) (E:XK),Room k A->Env0 P w K mg base A outer s H->BindsTo s fd args (ps.zip us)->Vals vs us->sp vs H Q E ->
   codeAny (model P w) A (.call (.ref f) args) (CR CX outer P w H s Q E) s
theorem Env0.make {P:Program} {w:World} {K:PySem.W.Frag} {mg:Str->Option Value} {base:Heap} {A:Around} {outer:List Env} {s:Shared} {H:Hp} (e:Env0 P w K mg base A outer s H) (C:Addr) (us:List Value) (kw:List (Str × Value)) :
   Env0 P w K mg base (A.under (.builtin "type.__call__" ⟨.ref C::us,kw⟩)) outer s H:=⟨by first|exact e.frames|(simpa [Around.under,Code.envs,Code.isFrame,pushEnvs] using e.frames),e.mod,e.bs,e.bsz,e.funs,e.frf,e.hok,e.bare⟩
section
variable {X:Cx} {pins:List (Addr × Obj)} {σ:St} {H:Hp} {s s':Shared}
theorem Inv.env0 (I:Inv X pins σ H s):Env0 X.prog X.w X.K X.mg X.base X.A X.stack s H :=
 ⟨I.ok.frames,I.ok.mod,I.bs,bq I.ok.bsz I.sz,I.stack,I.stkFree,I.hok,I.bare⟩
theorem Inv.after {Q:VK} {u:Value} (I:Inv X pins σ H s) (h:CE X.stack X.prog X.w H s Q u s'):EP X pins σ Q u s':=by
 obtain ⟨v,H',os,bare,un,hok,r,q⟩:=h;obtain ⟨hh,g,d,t,os'⟩:=s';obtain rfl:os'=s.os:=os;exact ⟨v,H',I.call (h':=hh) (g':=g) (d':=d) (t':=t) (ch:=[]) un hok bare (fun b z=>absurd z (by simp)),r,q⟩
end
def OC (sp:Sp) (dvs:List V) (E:XK) (t:TA):TE:=fun σ H Q=>t σ H fun vs H1=>sp (vs++dvs) H1 Q E
def T3 (C:Addr) (m:Str) (sp:Sp) (dvs:List V) (E:XK) (ta:TE) (t:TA):TE:=fun σ H Q=>ta σ H fun x H1=>∃ a dx fs,x=.ref a/\H1 a=some (.ins C dx fs)/\fs.lookup m=none /\
 t σ H1 fun vs H2=>sp (x::(vs++dvs)) H2 Q E
def OY (C:Addr) (sp:Sp) (dvs:List V) (E:XK) (t:TA):TE:=fun σ H Q=>t σ H fun vs H1=>∀ x dx,H1 x=none->H1 dx=none->dx≠x ->
 sp (.ref x::(vs++dvs)) (upd (upd H1 dx (.own x)) x (.ins C dx [])) (fun v H2=>v=.non/\Q (.ref x) H2) E
def Binds (K:PySem.W.Frag) (fd:FuncData) (ps:List Str) (ds:List Value):Prop :=
 ∀ (s:Shared) (us:List Value),K.In s.heap->(us++ds).length=ps.length->BindsTo s fd ⟨us,[]⟩ (ps.zip (us++ds))
theorem Binds.all {K:PySem.W.Frag} {fd:FuncData} {ps:List Str} (h:∀ us:List Value,us.length=ps.length->bindArgs fd ⟨us,[]⟩=pure (ps.zip us)):Binds K fd ps []:=fun s us _ hl=>by
 rw [bC] at hl ⊢;exact .of_eq (h us hl)
def yS (CX:CXT) (X:Cx) (E:XK):Prop:=∀ (pins:List (Addr × Obj)) (σ:St) (H:Hp) (s:Shared) (e:Value) (s':Shared),Inv X pins σ H s->CX X.stack H s E e s'->X.xe e s'
section
variable {X:Cx} {CX:CXT} {k:Nat} {f C:Addr} {fd:FuncData} {ps:List Str} {sp:Sp} {dvs:List V} {ds:List Value} {E:XK} {x m:Str} {p pos apos:Pos} {e o:Expr} {es:List Expr} {ta:TE} {t:TA}
theorem VL {pins:List (Addr × Obj)} {σ:St} {H:Hp} {s:Shared} {Q:VK} {us:List Value} {vs:List V} (F:FnOk X.prog X.w X.K X.mg X.base CX k f fd ps sp) (hr:Room k X.A) (hb:Binds X.K fd ps ds) (hd:Vals dvs ds) (hx:yS CX X E)
   (I:Inv X pins σ H s) (r:Vals vs us) (h:sp (vs++dvs) H Q E):wpAny (model X.prog X.w) X.A (call (.ref f) us) (EP X pins σ Q) X.xe s:=by
 have r2:Vals (vs++dvs) (us++ds):=r.append hd;have hl:(us++ds).length=ps.length:=by rw [<- r2.length];exact F.len _ _ _ _ h
 refine jm (km (F.run X.A X.stack s H ⟨us,[]⟩ (us++ds) (vs++dvs) Q E hr I.env0 (hb s us I.kIn hl) r2 h) fun r s' hq=>?_);cases r with
 | error e=>exact hx pins σ H s e s' I hq
 | ok fl =>
   cases fl with
   | ret u=>exact I.after hq
   | next=>exact False.elim hq
   | brk=>exact False.elim hq
   | cont=>exact False.elim hq
theorem aZ (F:FnOk X.prog X.w X.K X.mg X.base CX k f fd ps sp) (hr:Room k X.A) (hg:Gl X x) (hm:X.mg x=some (.ref f)) (hk:PySem.W.keepIn X.K (.ref f)=true) (hb:Binds X.K fd ps ds) (hd:Vals dvs ds) (hx:yS CX X E)
   (ha:PA X (e::es) t) (hdb:(x == ("__debug__":Str))=false:=by decide) (he:starEach (e::es) X.env=(false,eval e X.env)::starEach es X.env:=by rfl) (hpl:(backTo pos (starEach es X.env)).any (·.1)=false:=by rfl) :
   PE X (.Call (.Name x p) (e::es) [] pos) (OC sp dvs E t):=by
 intro pins s σ H Q I h;refine d7 (CD I hg hm ?_ hdb);refine PySem.W.callWith_K (h₀:=X.base) I.ok.mod.kin hk (xq (ha pos pins s σ H _ I h) fun us s1 vs H1 I1 r q=>⟨I1.kIn,?_⟩) he hpl;exact VL F hr hb hd hx I1 r q
structure Mk (K:PySem.W.Frag) (C f:Addr):Prop where
 makes:PySem.W.makesIn K C=true
 init:PySem.W.findIn K (.ref C) "__init__"=some (some (.ref f))
 fn:PySem.W.isFn K (.ref f)=true
 kp:PySem.W.keepIn K (.ref C)=true
theorem SB {pins:List (Addr × Obj)} {σ:St} {H:Hp} {s:Shared} {Q:VK} {us:List Value} {vs:List V} (M:Mk X.K C f) (F:FnOk X.prog X.w X.K X.mg X.base CX k f fd ps sp) (hr:Room (k+1) X.A) (hb:Binds X.K fd ps ds) (hd:Vals dvs ds)
   (hx:yS CX X E) (I:Inv X pins σ H s) (r:Vals vs us)
   (h:∀ x dx,H x=none->H dx=none->dx≠x->sp (.ref x::(vs++dvs)) (upd (upd H dx (.own x)) x (.ins C dx [])) (fun v H2=>v=.non/\Q (.ref x) H2) E) :
   wpAny (model X.prog X.w) X.A (call (.ref C) us) (EP X pins σ Q) X.xe s:=by
 have hq:=h (s.heap.objs.size+1) s.heap.objs.size (I.hok.fresh (iP _)) (I.hok.fresh (aI _)) (aO (eJ _));have I2:=Inv.made (C:=C) I;have r2:Vals (V.ref (s.heap.objs.size+1)::(vs++dvs)) (Value.ref (s.heap.objs.size+1)::(us++ds)):=.cons rfl (r.append hd);have hl:(Value.ref (s.heap.objs.size+1)::us++ds).length=ps.length:=by
   have e:=r2.length;rw [F.len _ _ _ _ hq] at e;exact e.symm
 refine jm (Sw (f:=f) I.kIn M.makes M.init (g6.mp M.fn) (km (F.run _ X.stack _ _ ⟨Value.ref (s.heap.objs.size+1)::us,[]⟩ (Value.ref (s.heap.objs.size+1)::(us++ds)) _ _ E (hr.make C us [])
   (I2.env0.make C us []) (hb _ (Value.ref (s.heap.objs.size+1)::us) I2.kIn hl) r2 hq) fun r s' hq'=>?_))
 cases r with
 | error e=>exact hx pins σ _ _ e s' I2 hq'
 | ok fl =>
   cases fl with
   | ret u =>
     obtain ⟨v,H',I3,rv,ev,q3⟩:=I2.after hq';subst ev;exact ⟨rv,⟨V.ref (s.heap.objs.size+1),H',I3,rfl,q3⟩⟩
   | next=>exact False.elim hq'
   | brk=>exact False.elim hq'
   | cont=>exact False.elim hq'
theorem Um (M:Mk X.K C f) (F:FnOk X.prog X.w X.K X.mg X.base CX k f fd ps sp) (hr:Room (k+1) X.A) (hg:Gl X x) (hm:X.mg x=some (.ref C)) (hb:Binds X.K fd ps ds) (hd:Vals dvs ds) (hx:yS CX X E)
   (ha:PA X (e::es) t) (hdb:(x == ("__debug__":Str))=false:=by decide) (he:starEach (e::es) X.env=(false,eval e X.env)::starEach es X.env:=by rfl) (hpl:(backTo pos (starEach es X.env)).any (·.1)=false:=by rfl) :
   PE X (.Call (.Name x p) (e::es) [] pos) (OY C sp dvs E t):=by
 intro pins s σ H Q I h;refine d7 (CD I hg hm ?_ hdb);refine PySem.W.callWith_K (h₀:=X.base) I.ok.mod.kin M.kp (xq (ha pos pins s σ H _ I h) fun us s1 vs H1 I1 r q=>⟨I1.kIn,?_⟩) he hpl;exact SB M F hr hb hd hx I1 r q
end
structure FnScope (N P:List Str) (sc:Scope):Prop where
 kind:sc.kind=.function
 co:sc.isCoroutine=false
 gen:sc.isGenerator=false
 nd:N.Nodup
 pre:N.take P.length=P
 par:∀ x∈P,sc.names.lookup x=some .local\/sc.names.lookup x=some .cell
 nofree:∀ y∈sc.names,y.2≠.free
theorem GZ {kindOf:Str->Option NameKind} {x:Str}:∀ {binds:List (Str × Value)} {m:Str->Option Value},(∀ v,(x,v) ∉ binds)->bindL kindOf binds m x=m x
 | [],_,_=>rfl
 | (n,v)::r,m,h=>by
   unfold bindL;rw [GZ fun w hw=>h w (ak _ hw)];split
   . have:x≠n:=(by rintro rfl;exact h v aw);simp [this]
   . rfl
theorem GO {kindOf:Str->Option NameKind} {x:Str}:∀ {binds:List (Str × Value)} {m:Str->Option Value},(∀ v,(x,v) ∉ binds)->bindC kindOf binds m x=m x
 | [],_,_=>rfl
 | (n,v)::r,m,h=>by
   unfold bindC;rw [GO fun w hw=>h w (ak _ hw)];split
   . rfl
   . have:x≠n:=(by rintro rfl;exact h v aw);simp [this]
theorem GG {kindOf:Str->Option NameKind} {x:Str} {v:Value}:∀ {P:List Str} {vs:List Value} {i:Nat} {m:Str->Option Value},P.Nodup->P[i]?=some x->vs[i]?=some v->kindOf x=some .local ->
   bindL kindOf (P.zip vs) m x=some v
 | [],_,_,_,_,h,_,_=>by simp at h
 | _::_,[],_,_,_,_,h,_=>by simp at h
 | p::P,w::vs,0,m,nd,h1,h2,hk=>by
   simp at h1 h2;subst h1;subst h2;show bindL kindOf ((p,w)::P.zip vs) m p=_;unfold bindL;rw [GZ fun v hv=>(aE.mp nd).1 (lP hv).1,ag hk];simp
 | p::P,w::vs,i+1,m,nd,h1,h2,hk=>by
   show bindL kindOf ((p,w)::P.zip vs) m x=_;unfold bindL;exact GG (i:=i) (aE.mp nd).2 (by simpa using h1) (by simpa using h2) hk
theorem Gy {kindOf:Str->Option NameKind} {x:Str} {v:Value}:∀ {P:List Str} {vs:List Value} {i:Nat} {m:Str->Option Value},P.Nodup->P[i]?=some x->vs[i]?=some v->kindOf x≠some .local ->
   bindC kindOf (P.zip vs) m x=some v
 | [],_,_,_,_,h,_,_=>by simp at h
 | _::_,[],_,_,_,_,h,_=>by simp at h
 | p::P,w::vs,0,m,nd,h1,h2,hk=>by
   simp at h1 h2;subst h1;subst h2;show bindC kindOf ((p,w)::P.zip vs) m p=_;unfold bindC;rw [GO fun v hv=>(aE.mp nd).1 (lP hv).1,aa hk];simp
 | p::P,w::vs,i+1,m,nd,h1,h2,hk=>by
   show bindC kindOf ((p,w)::P.zip vs) m x=_;unfold bindC;exact Gy (i:=i) (aE.mp nd).2 (by simpa using h1) (by simpa using h2) hk
def start (N:List Str) (vs:List V):St:=vs.map some++List.replicate (N.length - vs.length) none
def ux (CX:CXT) (P:Program) (w:World) (K:PySem.W.Frag) (mg:Str->Option Value) (base:Heap) (N:List Str) (qual:Str) (scope:Scope) (f:Addr) (cd:Value) (A:Around) (outer:List Env) (s:Shared) (H:Hp) (E:XK):Cx where
 prog:=P
 w:=w
 K:=K
 mg:=mg
 base:=base
 A:=A.deeper (envOfC qual scope s.heap.objs.size f cd)
 N:=N
 s₀:=s
 H₀:=H
 env:=envOfC qual scope s.heap.objs.size f cd
 outer:=outer
 stack:=envOfC qual scope s.heap.objs.size f cd::outer
 ex:=[]
 calm:=true
 fn:=fun _=>true
 pn:=[]
 xe:=fun e s'=>wpAny (model P w) (A.deeper (envOfC qual scope s.heap.objs.size f cd)) (leaving (envOfC qual scope s.heap.objs.size f cd) e) (fun _ s''=>CX outer H s E e s'') (fun e' s''=>CX outer H s E e' s'') s'
theorem nC {sc:Scope} {n:Nat} {x:Str} (h:sc.names.lookup x=some .cell):∃ c,(cellsFrom n sc.names []).lookup x=some c:=by
 have q:=lS sc.names n [] (.inl h);exact dN.mp q
theorem Pr {CX:CXT} {P:Program} {w:World} {K:PySem.W.Frag} {mg:Str->Option Value} {base:Heap} {N ps:List Str} {qual:Str} {scope:Scope} {f:Addr} {cd:Value} {A:Around} {outer:List Env} {s s1:Shared} {H:Hp} {E:XK} {us:List Value} {vs:List V}
   (S:FnScope N ps scope) (hd:A.handled=none) (e0:Env0 P w K mg base A outer s H) (hl:vs.length=ps.length) (r:Vals vs us)
   (x:InCallC s s.heap.objs.size (bindL (envOfC qual scope s.heap.objs.size f cd).kindOf (ps.zip us) fun _=>none) (cellsFrom (s.heap.objs.size+1) scope.names []) (bindC (envOfC qual scope s.heap.objs.size f cd).kindOf (ps.zip us) fun _=>none) s1) :
   Inv (ux CX P w K mg base N qual scope f cd A outer s H E) [] (start N vs) H s1:=by
 have hpl:ps.length<=N.length:=by have:=congrArg List.length S.pre;rw [bu] at this;omega
 obtain ⟨h1,tk,rfl,hk⟩:=x.done;have noA:∀ b:Addr,b ∉ (ux CX P w K mg base N qual scope f cd A outer s H E).ex:=fun b z=>absurd (show b∈([]:List Addr) from z) (by simp);refine ⟨⟨e0.mod,S.kind,rfl,rfl,aI _,fun y z c h1 h2=>?_,fun y hy=>?_,fun y c _ h=>?_,fun _=>hd,Around.frames_deeper e0.frames,.inr ⟨rfl,rfl⟩,fun b z=>absurd z (noA b),e0.bs,e0.bsz,fun b _ _=>noA b,fun b z=>absurd z (noA b),e0.funs,e0.frf⟩,
   rfl,e0.bare,Un.kept hk,⟨_,x.toInCall.ns,fun i y v h1 h2 h3=>?_⟩,fun y c h=>⟨_,x.cell y c h⟩,e0.hok.fresh (aI _),fun y c h=>?_,fun p hp=>absurd (show p∈([]:List (Addr × Obj)) from hp) (by simp),e0.hok.kept hk,?_⟩
 . exact name_of_addr x.apart (cK h1) (cK h2)
 . have hy:scope.names.lookup y=some .cell\/scope.names.lookup y=some .free:=hy;rcases hy with hy|hy
   . exact nC hy
   . exact absurd rfl (S.nofree _ (cK hy))
 . exact kb (x.above y c (cK h))
 . have hi:i<vs.length:=by
     unfold start at h2;by_cases hi:i<vs.length
     . exact hi
     . rw [dD (by simpa using hi)] at h2;rw [g7] at h2;split at h2 <;> cases h2
   have ha:vs[i]?=some v:=by
     unfold start at h2;rw [dP (by simpa using hi),aP] at h2;cases e:vs[i]? with
     | none=>rw [e] at h2;cases h2
     | some a=>rw [e] at h2;cases h2;rfl
   obtain ⟨u,hu,rv⟩:=r.get ha;have hp:ps[i]?=some y:=by
     rw [<- S.pre,kY (by omega)];exact h1
   have ndP:ps.Nodup:=by rw [<- S.pre];exact S.nd.sublist (List.take_sublist _ _)
   refine ⟨u,rv,?_⟩;rcases S.par y (a8 hp) with k|k
   . exact .inl ⟨k,GG ndP hp hu k⟩
   . obtain ⟨c,e⟩:=nC (n:=s.heap.objs.size+1) k;refine .inr ⟨.inl k,c,e,?_⟩;have q:=x.cell y c e;rw [Gy ndP hp hu (by show scope.names.lookup y≠_;rw [k];decide)] at q;exact q
 . exact e0.hok.fresh (kb (x.above y c (cK h)))
 . unfold start;show _=N.length;rw [aH,ai,c7];omega
theorem TL {CX:CXT} {P:Program} {w:World} {K:PySem.W.Frag} {mg:Str->Option Value} {base:Heap} {k:Nat} {f:Addr} {name qual:Str} {params:Arguments} {body:List Stmt} {scope:Scope} {dV kV doc pm cdv ct oc:Value} {an od:Option Addr}
   {osl:Array (Option Value)} {N ps:List Str} {sp:Sp} (lk:K.lookup f=some ⟨oc,od,.func (PySem.W.fnOf name qual params body scope dV kV doc pm an cdv ct),osl⟩) (hcd:PySem.W.codeIn K cdv qual=true) (S:FnScope N ps scope)
   (len:∀ vs H Q E,sp vs H Q E->vs.length=ps.length)
   (hbody:∀ (A:Around) (outer:List Env) (s:Shared) (H:Hp) (vs:List V) (Q:VK) (E:XK),Room k (A.deeper (envOfC qual scope s.heap.objs.size f cdv))->sp vs H Q E ->
     ∃ t,PSs (ux CX P w K mg base N qual scope f cdv A outer s H E) body t/\t { nx:=fun _ H'=>Q .non H',rt:=Q } (start N vs) H) :
   FnOk P w K mg base CX (k+1) f (PySem.W.fnOf name qual params body scope dV kV doc pm an cdv ct) ps sp:=by
 refine ⟨len,fun A outer s H args us vs Q E hr e0 hb r hsp=>?_⟩;have hl:=len _ _ _ _ hsp;have KX:K.In s.heap:=e0.mod.kin.keeps fun b o e=>(e0.bs b o e).1;have lim:s.heap.NoLimit:=e0.mod.nolimit.keeps fun b o e=>(e0.bs b o e).1;have hkind:∀ y∈ps.zip us,scope.names.lookup y.1=some .local\/(scope.names.lookup y.1=some .cell/\((cellsFrom (s.heap.objs.size+1) scope.names []).lookup y.1).isSome=true):=fun ⟨n,v⟩ hy=>by
   rcases S.par n (lP hy).1 with q|q
   . exact .inl q
   . exact .inr ⟨q,lS _ _ _ (.inl q)⟩
 refine codeAny_call_function hr.depth (KX _ _ lk) rfl S.co S.gen rfl (PySem.W.codeRec_of KX hcd) (hb _ _ _ _ ?_);refine wpAny_newFunctionEnv_cells S.kind hkind fun env he s1 x=>?_;subst he;refine ⟨lim.keeps x.toInCall.keep,codeAny_func ?_⟩;obtain ⟨t,ht,hq⟩:=hbody A outer s H vs Q E (hr.deeper _) hsp;have I:Inv (ux CX P w K mg base N qual scope f cdv A outer s H E) [] (start N vs) H s1:=Pr S hr.hd e0 hl r x;refine cJ (ht [] s1 (start N vs) H _ I hq) (fun fl s' hs=>?_) fun e s' hs=>hs;have fin:∀ {σ':St} {H':Hp} {v:V} {u:Value},Inv (ux CX P w K mg base N qual scope f cdv A outer s H E) [] σ' H' s'->RelV v u->Q v H'->CE outer P w H s Q u s' :=
   fun {σ' H' v u} J rv q=>⟨v,H',J.os,J.bare,J.base,J.hok,rv,q⟩
 cases fl with
 | ret u =>
   obtain ⟨v,σ',H',J,rv,q⟩:=hs;exact fin J rv q
 | next =>
   obtain ⟨σ',H',J,q⟩:=hs;exact fin (v:=V.non) (u:=Value.none) J rfl q
 | brk =>
   obtain ⟨_,_,_,q⟩:=hs;exact False.elim q
 | cont =>
   obtain ⟨_,_,_,q⟩:=hs;exact False.elim q
end L2
namespace L2
open PySem PySem.Spec PyProof.Rows
section
variable {X:Cx} {x:Str} {p pos:Pos} {e:Expr} {es:List Expr} {t:TA} {id T:String} {r:List V->Hp->VK->Prop}
def tCB (r:List V->Hp->VK->Prop) (t:TA):TE:=fun σ H Q=>t σ H fun vs H1=>r vs H1 Q
theorem c8 (hc:qb X (.builtin id) r) (hg:Gl X x) (hm:X.mg x=none) (hv:bootBuiltins x=some (.builtin id)) (ha:PA X (e::es) t) (hn:x≠"__name__":=by decide) (hdb:(x == ("__debug__":Str))=false:=by decide)
   (he:starEach (e::es) X.env=(false,eval e X.env)::starEach es X.env:=by rfl) (hpl:(backTo pos (starEach es X.env)).any (·.1)=false:=by rfl):PE X (.Call (.Name x p) (e::es) [] pos) (tCB r t):=by
 intro pins s σ H Q I h;refine d7 (t8 I hg hm hv ?_ hn hdb);exact iq (xq (ha pos pins s σ H _ I h) fun us s1 vs H1 I1 r1 q1=>hc pins s1 σ H1 vs us Q I1 r1 q1) he hpl
theorem fK (hc:qb X (.type T) r) (hg:Gl X x) (hm:X.mg x=none) (hv:bootBuiltins x=some (.type T)) (ha:PA X (e::es) t) (hn:x≠"__name__":=by decide) (hdb:(x == ("__debug__":Str))=false:=by decide)
   (he:starEach (e::es) X.env=(false,eval e X.env)::starEach es X.env:=by rfl) (hpl:(backTo pos (starEach es X.env)).any (·.1)=false:=by rfl):PE X (.Call (.Name x p) (e::es) [] pos) (tCB r t):=by
 intro pins s σ H Q I h;refine d7 (t8 I hg hm hv ?_ hn hdb);exact dv (xq (ha pos pins s σ H _ I h) fun us s1 vs H1 I1 r1 q1=>hc pins s1 σ H1 vs us Q I1 r1 q1) he hpl
end
end L2
namespace L2
open PySem PySem.Spec PyProof.Rows
abbrev TO:=St->Hp->(Option Int->Hp->Prop)->Prop
def PO (X:Cx) (e:Option Expr) (t:TO):Prop :=
 ∀ (pins:List (Addr × Obj)) (s:Shared) (σ:St) (H:Hp) (Q:Option Int->Hp->Prop),Inv X pins σ H s->t σ H Q ->
   wpAny (model X.prog X.w) X.A (evalPart e X.env) (fun u s'=>∃ o H',Inv X pins σ H' s'/\IsPart u o/\Q o H') X.xe s
end L2
namespace L2
open PySem PySem.Spec PyProof.Rows
def ixN (n:Nat) (i:Int):Option Nat:=if 0<=i then (if i<n then some i.toNat else none) else if -(n:Int)<=i then some (i+n).toNat else none
def atI {α:Type} (xs:List α) (i:Int):Option α:=(ixN xs.length i).bind fun j=>xs[j]?
theorem MJ {n:Nat} {i:Int} {j:Nat} (h:ixN n i=some j):seqIndex? i n=some j/\j<n/\-(n:Int)<=i/\i<n:=by
 unfold ixN at h;by_cases h0:0<=i
 . rw [ag h0] at h;by_cases h1:i<n
   . rw [ag h1] at h;have e:i.toNat=j:=bi h;exact ⟨by rw [seqIndex_of h0 h1,e],by omega,by omega,h1⟩
   . rw [aa h1] at h;cases h
 . rw [aa h0] at h;by_cases h1:-(n:Int)<=i
   . rw [ag h1] at h;have e:(i+n).toNat=j:=bi h;exact ⟨by rw [seqIndex_neg (by omega) h1,e],by omega,h1,by omega⟩
   . rw [aa h1] at h;cases h
theorem Ga {α:Type} {xs:List α} {i:Int} {v:α} (h:atI xs i=some v):∃ j,seqIndex? i xs.length=some j/\xs[j]?=some v/\j<xs.length/\-(xs.length:Int)<=i/\i<xs.length:=by
 unfold atI at h;cases e:ixN xs.length i with
 | none=>rw [e] at h;cases h
 | some j =>
   rw [e] at h;obtain ⟨h1,h2,h3,h4⟩:=MJ e;exact ⟨j,h1,h,h2,h3,h4⟩
theorem MP {α:Type} {xs:List α} {j:Nat} {v:α} (h:xs[j]?=some v):atI xs (j:Int)=some v:=by
 have hj:j<xs.length:=(aq.mp h).1;have e:ixN xs.length (j:Int)=some j:=by
   unfold ixN;rw [ag (by omega),ag (by omega)];simp
 unfold atI;rw [e];exact h
def Uv (b:Expr):Prop:=∀ o i,subscripted b false o i=operate [o,i] (getItem o i)
def IxR (X:Cx) (r:R2):Prop :=
 ∀ (value slice:Expr) (pins:List (Addr × Obj)) (s:Shared) (σ:St) (H:Hp) (x y:V) (v u:Value) (Q:VK),Inv X pins σ H s->RelV x v->RelV y u->r x y H Q ->
   subscripted slice false v u=operate [v,u] (getItem v u)->wpAny (model X.prog X.w) X.A (subscriptTail value slice v u) (EP X pins σ Q) X.xe s
def MtR (X:Cx) (id:String) (r:V->List V->Hp->VK->Prop):Prop :=
 ∀ (pins:List (Addr × Obj)) (s:Shared) (σ:St) (H:Hp) (x:V) (xs:List V) (v:Value) (us:List Value) (Q:VK),Inv X pins σ H s->RelV x v->Vals xs us->r x xs H Q ->
   wpAny (model X.prog X.w) X.A (call (.builtin id) (v::us)) (EP X pins σ Q) X.xe s
section
variable {X:Cx} {a b:Expr} {ta tb:TE} {pos:Pos}
theorem bI {r:R2} (hr:IxR X r) (ha:PE X a ta) (hb:PE X b tb) (hs:Uv b):PE X (.Subscript a b pos) (tOp r ta tb):=by
 intro pins s σ H Q I h;exact Subscript_ (Ta ha hb I h fun v u s2 x y H2 I2 rx ry q=>hr a b pins s2 σ H2 x y v u Q I2 rx ry q (hs _ _))
def Ip (K:PySem.W.Frag):R2:=fun x y H Q=>∃ p xs i v,x=.ref p/\y=.int i/\SqL K H p xs/\atI xs i=some v/\Q v H
def OE (K:PySem.W.Frag):R2:=fun x y H Q=>∃ p xs i v,x=.ref p/\y=.int i/\SqT K H p xs/\atI xs i=some v/\Q v H
theorem b6:IxR X (Ip X.K):=by
 intro value slice pins s σ H x y v u Q I rx ry h hs;obtain ⟨p,xs,i,z,rfl,rfl,hq,he,q⟩:=h;cases rx;obtain ⟨t,rfl⟩:=ry;obtain ⟨its,r,pl,hz⟩:=I.list hq;obtain ⟨j,h1,h2,h3,h4,h5⟩:=Ga he;obtain ⟨w,ew,rw'⟩:=r.get h2;have hl:=r.length;have hn:=vK;have fin:EP X pins σ Q w s:=⟨z,H,I,rw',q⟩;by_cases h0:0<=i
 . have hj:i.toNat=j:=by
     rw [seqIndex_of h0 h5] at h1;exact bi h1
   exact item_listR pl.isList h0 (by omega) (by rw [hj];simpa using ew) fin hs
 . have hj:(i+(its.toArray.size:Int)).toNat=j:=by
     rw [seqIndex_neg (by omega) h4] at h1;rw [aD,<- hl];exact bi h1
   exact subscriptTail_builtinR (x:=w) pl.isList.typeIs slot_list_getitem.lookup
     (wpAny_getItem_list_neg (Q:=fun r s'=>r=w/\EP X pins σ Q r s') pl.isList (by omega) (by rw [aD] <;> omega) (by omega) (by rw [hj];simpa using ew) ⟨rfl,fin⟩) hs
theorem fh:IxR X (OE X.K):=by
 intro value slice pins s σ H x y v u Q I rx ry h hs;obtain ⟨p,xs,i,z,rfl,rfl,hq,he,q⟩:=h;cases rx;obtain ⟨t,rfl⟩:=ry;obtain ⟨its,r,pl,hz⟩:=I.tuple hq;obtain ⟨j,h1,h2,h3,h4,h5⟩:=Ga he;obtain ⟨w,ew,rw'⟩:=r.get h2;have hl:=r.length;have hn:=vK;have fin:EP X pins σ Q w s:=⟨z,H,I,rw',q⟩;exact subscriptTail_builtinR (x:=w) pl.typeIs slot_tuple_getitem.lookup
   (getItem_tuple (j:=j) (Q:=fun r s'=>r=w/\EP X pins σ Q r s') pl (by omega) (by omega) (by rw [aD,<- hl];exact h1) (by simpa using ew) ⟨rfl,fin⟩) hs
theorem OF (its:List Value) (n j:Nat) (u:Value):Obj.mapSeq (·.setIfInBounds j u) { cls:=.type "list",data:=.seq its.toArray n }={ cls:=.type "list",data:=.seq (its.set j u).toArray n }:=by
 simp [Obj.mapSeq]
theorem Inv.lst {pins:List (Addr × Obj)} {σ:St} {H:Hp} {s:Shared} {p:Addr} {xs:List V} (I:Inv X pins σ H s) (h:H p=some (.lst xs)) :
   ∃ (its:List Value) (n:Nat),Vals xs its/\s.heap.get? p=some { cls:=.type "list",data:=.seq its.toArray n }/\xs.length<=sizeLine:=by
 obtain ⟨z,its,n,r,e⟩:=I.hok p _ h;exact ⟨its,n,r,e,z⟩
theorem Inv.lstUpd {pins:List (Addr × Obj)} {σ:St} {H:Hp} {s:Shared} {p:Addr} {xs ys:List V} {its its':List Value} {n n':Nat} {f:Obj->Obj} (I:Inv X pins σ H s) (h:H p=some (.lst xs))
   (ho:s.heap.get? p=some { cls:=.type "list",data:=.seq its.toArray n }) (hf:f { cls:=.type "list",data:=.seq its.toArray n }={ cls:=.type "list",data:=.seq its'.toArray n' }) (r:Vals ys its') (hz:ys.length<=sizeLine) (t:Nat) :
   Inv X pins σ (upd H p (.lst ys)) { s with heap:=s.heap.update p f,toks:=t }:=by
 have e:(s.heap.update p f).get? p=some { cls:=.type "list",data:=.seq its'.toArray n' }:=by
   rw [eI f ho (by rw [hf] <;> rfl),hf]
 refine I.write (x:=p) (e:=p) (by rw [h];trivial) (.inl rfl) (fun b u hb q=>(cT _ _ (Ne.symm hb)).trans q) ⟨_,e⟩ ?_;exact ⟨hz,its',n',r,e⟩
def rSetL:V->V->V->Hp->(Hp->Prop)->Prop:=fun o i v H Q=>∃ p xs k j,o=.ref p/\i=.int k/\H p=some (.lst xs)/\ixN xs.length k=some j/\Q (upd H p (.lst (xs.set j v)))
theorem lQ:Sm X rSetL:=by
 intro pins s σ H o i v ov iv u Q I ro ri rv h;obtain ⟨p,xs,k,j,rfl,rfl,hp,hj,q⟩:=h;cases ro;obtain ⟨t,rfl⟩:=ri;obtain ⟨its,n,r,ho,hz⟩:=I.lst hp;obtain ⟨h1,h2,h3,h4⟩:=MJ hj;have hl:=r.length;have hn:=vK;have I':Inv X pins σ (upd H p (.lst (xs.set j v))) { s with heap:=s.heap.update p (Obj.mapSeq (·.setIfInBounds j u)) } :=
   I.lstUpd hp ho (OF its n j u) (r.set rv j) (by rw [bN];exact hz) s.toks
 by_cases h0:0<=k
 . have hk:k.toNat=j:=by
     rw [seqIndex_of h0 h4] at h1;exact bi h1
   exact PySem.W.ki_setAt ho h0 (by omega) (by rw [aD,<- hl];exact h4) (by rw [hk];exact ⟨_,I',q⟩)
 . have hk:(k+(its.toArray.size:Int)).toNat=j:=by
     rw [seqIndex_neg (by omega) h3] at h1;rw [aD,<- hl];exact bi h1
   exact PySem.W.ki_setBack ho (by omega) (by rw [aD,<- hl];exact h3) (by omega) (by rw [hk];exact ⟨_,I',q⟩)
theorem fE:qb X (.builtin "len") (fun xs H Q=>∃ p ys,xs=[.ref p]/\(SqL X.K H p ys\/SqT X.K H p ys)/\Q (.int ys.length) H):=by
 intro pins s σ H xs us Q I r h;obtain ⟨p,ys,rfl,hq,q⟩:=h;obtain ⟨u,rfl,rx⟩:=wK r;cases rx;have hn:=vK;rcases hq with hq|hq
 . obtain ⟨its,r',pl,hz⟩:=I.list hq;have hlen:=r'.length;exact Calls.call_len_list pl.isList (by simp only [aD] <;> omega) ⟨.int ys.length,H,I.tok _,⟨s.toks+1,by rw [aD,hlen]⟩,q⟩
 . obtain ⟨its,r',pl,hz⟩:=I.tuple hq;have hlen:=r'.length;exact len_tuple pl (by simp only [aD] <;> omega) ⟨.int ys.length,H,I.tok _,⟨s.toks+1,by rw [aD,hlen]⟩,q⟩
theorem oZ:qb X (.type "list") (fun xs H Q=>∃ p ys,xs=[.ref p]/\(SqL X.K H p ys\/SqT X.K H p ys)/\∀ l,H l=none->Q (.ref l) (upd H l (.lst ys))):=by
 intro pins s σ H xs us Q I r h;obtain ⟨p,ys,rfl,hq,q⟩:=h;obtain ⟨u,rfl,rx⟩:=wK r;cases rx;have fin:∀ (its:List Value),Vals ys its->ys.length<=sizeLine->∀ (h':Heap) (c':Nat),(∀ b o',s.heap.get? b=some o'->h'.get? b=some o') ->
     h'.get? s.heap.objs.size=some { cls:=.type "list",dict:=none,data:=.seq its.toArray c',slots:=#[] }->EP X pins σ Q (.ref s.heap.objs.size) { s with heap:=h' }:=fun its r' hz h' c' kp e =>
   ⟨.ref s.heap.objs.size,_,I.laid (t':=s.toks) kp (aI _) (show ObjOk X.prog X.w _ h' _ (.lst ys) from ⟨hz,its,c',r',e⟩),rfl,q _ (I.hok.fresh (aI _))⟩
 rcases hq with hq|hq
 . obtain ⟨its,r',pl,hz⟩:=I.list hq;have hlen:=r'.length;obtain ⟨o,ho,hc,n,hd⟩:=pl.isList;exact call_list_seq p (.inl rfl) ho hc hd (fun h' c' kp e=>fin its r' hz h' c' kp e) (by simp only [aD] <;> omega)
 . obtain ⟨its,r',pl,hz⟩:=I.tuple hq;have hlen:=r'.length;obtain ⟨o,ho,hc,n,hd⟩:=pl;exact call_list_seq p (.inr rfl) ho hc hd (fun h' c' kp e=>fin its r' hz h' c' kp e) (by simp only [aD] <;> omega)
theorem fN:qb X (.type "tuple") (fun xs H Q=>∃ p ys,xs=[.ref p]/\((SqL X.K H p ys/\∀ l,H l=none->Q (.ref l) (upd H l (.tup ys)))\/(SqT X.K H p ys/\Q (.ref p) H))):=by
 intro pins s σ H xs us Q I r h;obtain ⟨p,ys,rfl,h⟩:=h;obtain ⟨u,rfl,rx⟩:=wK r;cases rx;rcases h with ⟨hq,q⟩|⟨hq,q⟩
 . obtain ⟨its,r',pl,hz⟩:=I.list hq;have hlen:=r'.length;refine call_tuple_list pl.isList (fun h' kp=>?_) (by simp only [aD] <;> omega);have I1:Inv X pins σ H { s with heap:=h' }:=I.kept (t':=s.toks) kp;have I2:Inv X pins σ (upd H h'.objs.size (.tup ys)) { s with heap:=h'.push { cls:=.type "tuple",data:=.seq its.toArray } } :=
     I1.laid (t':=s.toks) (fun b o e=>aJ _ e) (aI _) (show ObjOk X.prog X.w _ _ _ (.tup ys) from ⟨hz,its,r',IsTup.new _ _⟩)
   exact ⟨.ref h'.objs.size,_,I2,rfl,q _ (I1.hok.fresh (aI _))⟩
 . obtain ⟨its,r',pl,hz⟩:=I.tuple hq;exact call_tuple_same pl ⟨.ref p,H,I,rfl,q⟩
def tyV (K:PySem.W.Frag) (T:String) (x:V) (H:Hp):Prop:=match x with
 | .str _=>T="str"
 | .int _=>T="int"
 | .ref p=>(T="list"/\∃ xs,SqL K H p xs)\/(T="tuple"/\∃ o,K.lookup p=some o/\o.cls=.type "tuple"/\o.dict=none) \/
     (T="dict"/\((∃ kvs,H p=some (.dK kvs))\/∃ kvs,H p=some (.dT kvs)))\/(T="set"/\∃ S n,H p=some (.set S n))
 | _=>False
theorem Qb {pins:List (Addr × Obj)} {σ:St} {H:Hp} {s:Shared} {T:String} {x:V} {v:Value} (I:Inv X pins σ H s) (r:RelV x v) (ty:tyV X.K T x H) :
   s.TypeIs v T/\∀ a,v=.ref a->∃ ob,s.heap.get? a=some ob/\ob.dict=none:=by
 cases x with
 | str z =>
   obtain ⟨t,rfl⟩:=r;cases (show T="str" from ty);exact ⟨typeIs_str s z t,fun _ e=>nomatch e⟩
 | int i =>
   obtain ⟨t,rfl⟩:=r;cases (show T="int" from ty);exact ⟨typeIs_int s i t,fun _ e=>nomatch e⟩
 | ref p =>
   cases r;rcases ty with ⟨rfl,xs,hq⟩|⟨rfl,o,hk,hc,hd⟩|⟨rfl,hk⟩|⟨rfl,S,n,hk⟩
   . obtain ⟨its,_,pl,_⟩:=I.list hq;refine ⟨pl.isList.typeIs,fun a e=>?_⟩;cases e;obtain ⟨o,n,e,c,hd,_⟩:=pl;exact ⟨o,e,hd⟩
   . refine ⟨⟨o,I.kIn p o hk,hc⟩,fun a e=>?_⟩;cases e;exact ⟨o,I.kIn _ o hk,hd⟩
   . have z:∃ o,s.heap.get? p=some o/\o.ExactDict:=by
       rcases hk with ⟨kvs,hk⟩|⟨kvs,hk⟩
       . obtain ⟨_,_,_,_,o,_,_,e,ex,_⟩:=I.hok p _ hk;exact ⟨o,e,ex⟩
       . obtain ⟨_,_,_,_,o,_,_,e,ex,_⟩:=I.hok p _ hk;exact ⟨o,e,ex⟩
     obtain ⟨o,e,ex⟩:=z;refine ⟨⟨o,e,ex.1⟩,fun a e2=>?_⟩;cases e2;exact ⟨o,e,ex.2.1⟩
   . obtain ⟨o,_,_,_,e,ex,_⟩:=I.hok p _ hk;refine ⟨⟨o,e,ex.1⟩,fun a e2=>?_⟩;cases e2;exact ⟨o,e,ex.2.1⟩
 | _=>exact False.elim ty
def Rn (K:PySem.W.Frag) (T:String) (r:V->List V->Hp->VK->Prop) (to:TE):TE:=fun σ H Q=>to σ H fun x H1=>tyV K T x H1/\r x [] H1 Q
def tBM (K:PySem.W.Frag) (T:String) (r:V->List V->Hp->VK->Prop) (to:TE) (t:TA):TE:=fun σ H Q=>to σ H fun x H1=>tyV K T x H1/\t σ H1 fun xs H2=>r x xs H2 Q
variable {o e:Expr} {es:List Expr} {to:TE} {t:TA} {name:Str} {apos cpos:Pos} {T id:String} {r:V->List V->Hp->VK->Prop}
theorem Ku (pa:PlainAttrs T) (slot:Slot T name id) (hty:typeOf (.builtin id)=pure (.type "method_descriptor")) (hm:MtR X id r) (ho:PE X o to)
   (hbase:attributeBase o name X.env (eval o X.env)=eval o X.env:=by rfl) (hline:(apos.endLine == cpos.line)=true:=by rfl):PE X (.Call (.Attribute o name apos) [] [] cpos) (Rn X.K T r to):=by
 intro pins s σ H Q I h;refine wpAny_Call_method0_late hbase hline (dB (ho pins s σ H _ I h) fun v s1 x H1 I1 r1 ⟨ty,q1⟩=>?_);obtain ⟨h1,h2⟩:=Qb I1 r1 ty;exact ⟨T,id,pa,slot,hty,h1,h2,Calls.callWith_builtin rfl (PySem.evalArgs_none (hm pins s1 σ H1 x [] v [] Q I1 r1 .nil q1))⟩
theorem pP (pa:PlainAttrs T) (slot:Slot T name id) (hty:typeOf (.builtin id)=pure (.type "method_descriptor")) (hm:MtR X id r) (ho:PE X o to) (ha:PA X (e::es) t)
   (hbase:attributeBase o name X.env (eval o X.env)=eval o X.env:=by rfl)
   (hfew:((backTo cpos (starEach (e::es) X.env)).all (fun x=>!x.1) && (backToKw cpos (keywordEach [] X.env)).all (fun x=>x.1.isSome)
     && decide ((e::es).length+([]:List Keyword).length+(if ([]:List Keyword).isEmpty then 0 else 1)<30))=true:=by rfl)
   (hline:(apos.endLine == cpos.line)=true:=by rfl) (hs:starEach (e::es) X.env=(false,eval e X.env)::starEach es X.env:=by rfl) (hplain:(backTo cpos (starEach es X.env)).any (·.1)=false:=by rfl) :
   PE X (.Call (.Attribute o name apos) (e::es) [] cpos) (tBM X.K T r to t):=by
 intro pins s σ H Q I h;refine wpAny_Call_method_late hbase hfew hline rfl (dB (ho pins s σ H _ I h) fun v s1 x H1 I1 r1 ⟨ty,q1⟩=>?_);obtain ⟨h1,h2⟩:=Qb I1 r1 ty;refine ⟨T,id,pa,slot,hty,h1,h2,?_⟩;have hA:=ha cpos pins s1 σ H1 _ I1 q1;rw [hs] at hA ⊢;refine Calls.callWith_builtin (by show (false || (backTo cpos (starEach es X.env)).any (·.1))=false;rw [hplain] <;> rfl) (Calls.evalArgs_plain ?_);exact thn hA fun us s2 ⟨vs,H2,I2,r2,q2⟩=>hm pins s2 σ H2 x vs v us Q I2 r1 r2 q2
end
end L2
namespace L2
open PySem PySem.Spec PyProof.Rows
def MtM (X:Cx) (id:String) (r:V->List V->Hp->VK->Prop):Prop :=
 ∀ (pins:List (Addr × Obj)) (s:Shared) (σ:St) (H:Hp) (x:V) (xs:List V) (v:Value) (us:List Value) (Q:VK),Inv X pins σ H s->RelV x v->Vals xs us->r x xs H Q ->
   wpAny (model X.prog X.w) X.A (call (.builtin id) (v::us)) (EP X pins σ Q) X.xe s
theorem Vals.one {x:V} {us:List Value} (h:Vals [x] us):∃ u,us=[u]/\RelV x u:=by
 cases h with
 | cons r t=>cases t;exact ⟨_,rfl,r⟩
theorem Vals.two {x y:V} {us:List Value} (h:Vals [x,y] us):∃ u v,us=[u,v]/\RelV x u/\RelV y v:=by
 cases h with
 | cons r t =>
   obtain ⟨v,e,q⟩:=Vals.one t;subst e;exact ⟨_,v,rfl,r,q⟩
theorem Vals.zero:∀ {us:List Value},Vals [] us->us=[]
 | _,.nil=>rfl
theorem Vals.dropLast {xs:List V} {us:List Value} (h:Vals xs us):Vals xs.dropLast us.dropLast:=by
 induction h with
 | nil=>exact .nil
 | cons r t ih =>
   cases t with
   | nil=>exact .nil
   | cons q t'=>exact .cons r ih
theorem Vals.rep {xs:List V} {us:List Value} (h:Vals xs us):∀ k:Nat,Vals (List.replicate k xs).flatten (List.replicate k us).flatten
 | 0=>.nil
 | k+1=>by
   rw [cj,cj,eN,eN];exact Vals.append h (Vals.rep h k)
theorem Oy {α:Type} (l:List α):l.eraseIdx (l.length - 1)=l.dropLast:=by
 induction l with
 | nil=>rfl
 | cons a r ih =>
   cases r with
   | nil=>rfl
   | cons b r =>
     have e:(a::b::r).length - 1=((b::r).length - 1)+1:=by
       have h1:(a::b::r).length=r.length+2:=rfl;have h2:(b::r).length=r.length+1:=rfl;omega
     rw [e,List.eraseIdx_cons_succ,ih]
     all_goals rfl
theorem GM (its:List Value):∀ (k:Nat) (acc:List Value),
   List.foldl (fun x1 x2=>x1++x2) acc.toArray (List.replicate k its.toArray)=(acc++(List.replicate k its).flatten).toArray
 | 0,acc=>by simp
 | k+1,acc=>by
   have e:acc.toArray++its.toArray=(acc++its).toArray:=by simp
   have e2:(acc++its)++(List.replicate k its).flatten=acc++(List.replicate (k+1) its).flatten:=by
     rw [cj,eN,bX]
   rw [<- e2,<- GM its k (acc++its),<- e,cj,gB]
section
variable {X:Cx} {pins:List (Addr × Obj)} {σ:St} {H:Hp} {s:Shared} {l b:Addr} {xs ys zs:List V}
theorem Inv.lset {its its':List Value} {n:Nat} {f:Array Value->Array Value} {t':Nat} (I:Inv X pins σ H s) (hH:H l=some (.lst xs))
   (e:s.heap.get? l=some { cls:=.type "list",data:=.seq its.toArray n }) (hf:f its.toArray=its'.toArray) (hv:Vals ys its') (hz:ys.length<=sizeLine) :
   Inv X pins σ (upd H l (.lst ys)) { s with heap:=s.heap.update l (Obj.mapSeq f),toks:=t' }:=by
 have q:=PySem.IsL.update e f;rw [hf] at q;refine I.write (x:=l) (e:=l) (by rw [hH];exact trivial) (.inl rfl) (fun b' u hb hu=>(cT s.heap (Obj.mapSeq f) (Ne.symm hb)).trans hu) ⟨_,q⟩ ?_;exact ⟨hz,its',_,hv,q⟩
theorem Inv.lnew {its:List Value} {t':Nat} (I:Inv X pins σ H s) (hv:Vals ys its) (hz:ys.length<=sizeLine) :
   Inv X pins σ (upd H s.heap.objs.size (.lst ys)) { s with heap:=s.heap.push { cls:=.type "list",data:=.seq its.toArray },toks:=t' } :=
 I.laid (fun _ _ q=>aJ _ q) (aI _) ⟨hz,its,0,hv,bg _ rfl⟩
theorem Inv.fresh (I:Inv X pins σ H s):H s.heap.objs.size=none:=I.hok.fresh (aI _)
theorem Inv.lstM (I:Inv X pins σ H s) (hH:H l=some (.lst xs)):xs.length<=sizeLine/\∃ (its:List Value) (n:Nat),Vals xs its/\xs.length=its.length/\s.heap.get? l=some { cls:=.type "list",data:=.seq its.toArray n }:=by
 obtain ⟨z,its,n,r,e⟩:=I.hok l _ hH;exact ⟨z,its,n,r,r.length,e⟩
theorem Tm {n:Nat} (h:n<=sizeLine):Builtin.List.listTooLong n=false:=by
 unfold Builtin.List.listTooLong;exact bH (by omega)
end
section
variable {X:Cx}
def rAppend:V->List V->Hp->VK->Prop:=fun x vs H Q=>∃ l xs y,x=.ref l/\vs=[y]/\H l=some (.lst xs)/\xs.length<sizeLine/\Q .non (upd H l (.lst (xs++[y])))
theorem fX:MtM X "list.append" rAppend:=by
 intro pins s σ H x vs v us Q I rx rv h;obtain ⟨l,xs,y,rfl,rfl,hH,hz,q⟩:=h;cases rx;obtain ⟨u,rfl,ru⟩:=rv.one;obtain ⟨z,its,n,r,hl,e⟩:=I.lstM hH;refine call_meets F.slot_list_append ⟨_,e,rfl⟩ F.entry_list_append (F.args_list_append_2 _ _) (PySem.list_append l its.toArray n u (by rw [aD];omega)) ⟨e,?_⟩;refine ⟨.non,_,I.lset (its':=its++[u]) hH e (by simp) (r.append (.cons ru .nil)) ?_,rfl,q⟩;rw [aH,List.length_singleton];omega
def rPop:V->List V->Hp->VK->Prop:=fun x vs H Q=>∃ l xs y,x=.ref l/\vs=[]/\H l=some (.lst xs)/\xs[xs.length - 1]?=some y/\Q y (upd H l (.lst xs.dropLast))
theorem Jf:MtM X "list.pop" rPop:=by
 intro pins s σ H x vs v us Q I rx rv h;obtain ⟨l,xs,y,rfl,rfl,hH,hy,q⟩:=h;cases rx;have hus:=rv.zero;subst hus;obtain ⟨z,its,n,r,hl,e⟩:=I.lstM hH;obtain ⟨u,hu,ru⟩:=r.get hy;have hy':its.toArray[its.toArray.size - 1]?=some u:=by
   show its.toArray[its.length - 1]?=some u;rw [<- jg,<- hl];exact hu
 refine call_meets F.slot_list_pop ⟨_,e,rfl⟩ F.entry_list_pop (F.args_list_pop_1 _) (MeetsSeq.list_pop_last l its.toArray n u hy' (by rw [aD];omega)) ⟨e,?_⟩;refine ⟨y,_,I.lset (its':=its.dropLast) hH e ?_ r.dropLast ?_,ru,q⟩
 . show its.toArray.eraseIdxIfInBounds (its.toArray.size - 1)=its.dropLast.toArray;rw [aD,List.eraseIdxIfInBounds_toArray,Oy]
 . rw [List.length_dropLast];omega
def rCat:R2:=fun x y H Q=>∃ l b xs zs,x=.ref l/\y=.ref b/\H l=some (.lst xs)/\H b=some (.lst zs)/\xs.length+zs.length<=sizeLine/\∀ p,H p=none->Q (.ref p) (upd H p (.lst (xs++zs)))
theorem VO:OpR X (binaryOp .Add) rCat:=by
 intro pins s σ H x y v u Q I rx ry h;obtain ⟨l,b,xs,zs,rfl,rfl,hH,hB,hz,q⟩:=h;cases rx;cases ry;obtain ⟨z,its,n,r,hl,e⟩:=I.lstM hH;obtain ⟨z2,its2,n2,r2,hl2,e2⟩:=I.lstM hB;refine PySem.P.add_list e e2 ?_ (by rw [aD,aD];omega);have ea:its.toArray++its2.toArray=(its++its2).toArray:=by simp
 rw [ea];exact ⟨.ref _,_,I.lnew (t':=s.toks) (r.append r2) (by rw [aH];omega),rfl,q _ I.fresh⟩
def rRep:R2:=fun x y H Q=>∃ l k xs,x=.ref l/\y=.int k/\H l=some (.lst xs)/\-(2^63)<=k/\k<2^63/\xs.length*k.toNat<=sizeLine /\
 ∀ p,H p=none->Q (.ref p) (upd H p (.lst (List.replicate k.toNat xs).flatten))
theorem Ud {α:Type} (xs:List α) (k:Nat):(List.replicate k xs).flatten.length=k*xs.length:=by
 induction k with
 | zero=>simp
 | succ k ih=>rw [cj,eN,aH,ih,Nat.succ_mul,Nat.add_comm]
theorem JP:OpR X (binaryOp .Mult) rRep:=by
 intro pins s σ H x y v u Q I rx ry h;obtain ⟨l,k,xs,rfl,rfl,hH,h1,h2,hz,q⟩:=h;cases rx;obtain ⟨t,rfl⟩:=ry;obtain ⟨z,its,n,r,hl,e⟩:=I.lstM hH;have hlen:its.toArray.size*k.toNat<=sizeLine:=by rw [aD,<- hl];exact hz
 have hcap:¬ its.toArray.size*k.toNat > (2^63 - 1) / 8:=by
   have:(sizeLine:Nat)<=(2^63 - 1) / 8:=by decide
   omega
 have hfit:¬ (!Builtin.List.listFitsIndex k)=true:=by
   rw [fitsIndex_both h1 h2];exact aV
 have hlong:¬ Builtin.List.listTooLong (its.toArray.size*k.toNat)=true:=by
   rw [Tm hlen];exact aV
 have hnew:List.foldl (fun x1 x2=>x1++x2) #[] (List.replicate (if its.toArray.isEmpty=true then 0 else k.toNat) its.toArray)=(List.replicate k.toNat its).flatten.toArray:=by
   have f0:∀ m:Nat,List.foldl (fun x1 x2=>x1++x2) #[] (List.replicate m its.toArray)=(List.replicate m its).flatten.toArray:=fun m=>by
     have:=GM its m [];rw [f9] at this;exact this
   rw [f0];cases its with
   | nil=>simp
   | cons a r'=>rw [aa (by simp)]
 refine wpAny_binaryOp_repeat_ref (T:="list") (U:="int") (by decide) ⟨_,e,rfl⟩ (fun s'=>typeIs_int s' k t) noFill_list_mul F.fills_int_mul F.slot_int_rmul repeat_list F.slot_int_index.lookup
   (call_meets F.slot_int_rmul (typeIs_int s k t) F.entry_int_rmul (F.args_int_rmul_2 _ _) (int___rmul___int_list k t l its.toArray n)
     ⟨e,rfl,⟨_,e,rfl⟩,call_meets F.slot_list_mul ⟨_,e,rfl⟩ F.entry_list_mul (F.args_list_mul_2 _ _) (AutoListH.list___mul___list_int_3 l its.toArray n k t hfit hcap hlong) ⟨e,?_⟩⟩)
 rw [hnew];exact ⟨.ref _,_,I.lnew (t':=s.toks) (r.rep k.toNat) (by rw [Ud,Nat.mul_comm];exact hz),rfl,q _ I.fresh⟩
end
section
variable {prog:Program} {w:World} {A:Around} {E:Value->Shared->Prop} {s:Shared}
set_option maxRecDepth 100000 in
end
end L2
namespace L2
open PySem PySem.Spec PyProof.Rows
section
variable {κ:Type} [DecidableEq κ]
def gN (kvs:List (κ × V)) (k:κ):Option V:=(kvs.find? fun kv=>decide (kv.1=k)).map (·.2)
def ip (kvs:List (κ × V)) (k:κ) (v:V):List (κ × V) :=
 if (kvs.any fun kv=>decide (kv.1=k))=true then kvs.map (fun kv=>if kv.1=k then (kv.1,v) else kv) else kvs++[(k,v)]
theorem jd {p:κ × V} {r:List (κ × V)} {k:κ} (e:p.1=k):gN (p::r) k=some p.2:=by simp [gN,fA,e]
theorem jk {p:κ × V} {r:List (κ × V)} {k:κ} (e:¬ p.1=k):gN (p::r) k=gN r k:=by simp [gN,fA,e]
theorem wm (k:κ):∀ kvs:List (κ × V),(kvs.any fun kv=>decide (kv.1=k))=(gN kvs k).isSome
 | []=>rfl
 | p::r=>by
   rw [oz];by_cases e:p.1=k
   . simp only [jd e,aW e,Bool.true_or,Option.isSome_some]
   . rw [jk e,bH e,Bool.false_or];exact wm k r
theorem JB (k j:κ) (y:V):∀ kvs:List (κ × V),gN (kvs.map fun kv=>if kv.1=k then (kv.1,y) else kv) j=(gN kvs j).map fun x=>if j=k then y else x
 | []=>rfl
 | p::r=>by
   have ih:=JB k j y r;rw [aK];by_cases h:p.1=k
   . rw [ag h];by_cases e:p.1=j
     . rw [jd (p:=(p.1,y)) e,jd e,iw,ag (e.symm.trans h)]
     . rw [jk (p:=(p.1,y)) e,jk e,ih]
   . rw [aa h];by_cases e:p.1=j
     . rw [jd (p:=p) e,jd e,iw,aa (fun z=>h (e.trans z))]
     . rw [jk (p:=p) e,jk e,ih]
theorem Gw (k j:κ) (y:V):∀ kvs:List (κ × V),gN kvs k=none->gN (kvs++[(k,y)]) j=if j=k then some y else gN kvs j
 | [],_=>by
   by_cases e:k=j
   . rw [ag e.symm];exact jd (p:=(k,y)) e
   . rw [aa (fun z=>e z.symm)];exact jk (p:=(k,y)) e
 | p::r,hn=>by
   rw [lD];have hk:¬ p.1=k:=fun z=>by rw [jd z] at hn;cases hn
   rw [jk hk] at hn;have ih:=Gw k j y r hn;by_cases e:p.1=j
   . rw [jd e,jd e,aa (fun z=>hk (e.trans z))]
   . rw [jk e,jk e,ih]
theorem Ke (kvs:List (κ × V)) (k j:κ) (y:V):gN (ip kvs k y) j=if j=k then some y else gN kvs j:=by
 unfold ip;by_cases a:(kvs.any fun kv=>decide (kv.1=k))=true
 . rw [ag a,JB];rw [wm] at a;by_cases e:j=k
   . obtain ⟨x,hx⟩:=dN.mp a;rw [ag e,e,hx,iw,ag rfl]
   . rw [aa e];cases gN kvs j with
     | none=>rfl
     | some x=>rw [iw,aa e]
 . rw [aa a];refine Gw k j y kvs ?_;rw [wm] at a;cases q:gN kvs k with
   | none=>rfl
   | some x=>rw [q] at a;exact (a rfl).elim
theorem qO (kvs:List (κ × V)) (k:κ) (v:V):(ip kvs k v).length<=kvs.length+1:=by
 unfold ip;split
 . rw [ai];omega
 . rw [aH,aL,fB];omega
theorem RB {kvs:List (κ × V)} {k:κ} (v:V) (h:gN kvs k=none):ip kvs k v=kvs++[(k,v)]:=by
 unfold ip;rw [wm,h];exact aa (by decide)
theorem RelO.isSome_eq {o:Option V} {u:Option Value} (r:RelO o u):o.isSome=u.isSome:=by
 cases o with
 | none=>cases u with
   | none=>rfl
   | some _=>exact (show False from r).elim
 | some _=>cases u with
   | none=>exact (show False from r).elim
   | some _=>rfl
theorem KV.val {kvs:List (κ × V)} {vs:List (κ × Value)} (r:KV kvs vs) (k:κ):RelO (gN kvs k) (valueAt vs k):=by
 unfold KV at r
 induction r with
 | nil=>exact True.intro
 | @cons p q ps qs h t ih =>
   obtain ⟨h1,h2⟩:=h;by_cases e:p.1=k
   . have e':q.1=k:=h1.symm.trans e;have b:valueAt (q::qs) k=some q.2:=(by simp [valueAt,fA,e']);rw [jd e,b];exact h2
   . have e':¬ q.1=k:=fun z=>e (h1.trans z);have b:valueAt (q::qs) k=valueAt qs k:=(by simp [valueAt,fA,e']);rw [jk e,b];exact ih
theorem KV.any {kvs:List (κ × V)} {vs:List (κ × Value)} (r:KV kvs vs) (k:κ):(kvs.any fun kv=>decide (kv.1=k))=vs.any fun kv=>decide (kv.1=k):=by
 unfold KV at r
 induction r with
 | nil=>rfl
 | cons h t ih=>rw [oz,oz,ih,h.1]
theorem KV.repl {kvs:List (κ × V)} {vs:List (κ × Value)} (r:KV kvs vs) (k:κ) {y:V} {u:Value} (ry:RelV y u) :
   KV (kvs.map fun kv=>if kv.1=k then (kv.1,y) else kv) (vs.map fun kv=>if kv.1=k then (kv.1,u) else kv):=by
 unfold KV at r ⊢
 induction r with
 | nil=>exact .nil
 | @cons p q ps qs h t ih =>
   rw [aK,aK];refine .cons ?_ ih;obtain ⟨h1,h2⟩:=h;by_cases e:p.1=k
   . rw [ag e,ag (h1.symm.trans e)];exact ⟨h1,ry⟩
   . rw [aa e,aa (fun z=>e (h1.trans z))];exact ⟨h1,h2⟩
theorem KV.put {kvs:List (κ × V)} {vs:List (κ × Value)} (r:KV kvs vs) (k:κ) {y:V} {u:Value} (ry:RelV y u):KV (ip kvs k y) (stored vs k u):=by
 unfold ip stored;rw [r.any k];by_cases e:(vs.any fun kv=>decide (kv.1=k))=true
 . rw [ag e,ag e];exact r.repl k ry
 . rw [aa e,aa e];exact Paired.snoc r ⟨rfl,ry⟩
theorem KV.length {kvs:List (κ × V)} {vs:List (κ × Value)} (r:KV kvs vs):kvs.length=vs.length:=Paired.length r
end
theorem CB {P:Program} {w:World} {k:Key} {u:Value} (r:RelV (kV k) u):(bz P w).is k u=true:=by
 cases k with
 | inl i=>obtain ⟨t,e⟩:=(show ∃ t,u=Value.int i t from r);subst e;exact LG P w i t
 | inr x=>obtain ⟨t,e⟩:=(show ∃ t,u=Value.str x t from r);subst e;exact Lp P w x t
theorem G2 {P:Program} {w:World}:∀ {ks:List Key} {us:List Value},Vals (ks.map kV) us->ItemsAre (bz P w) ks us
 | [],_,r=>by rw [ff] at r;cases r;exact .nil
 | k::ks,_,r=>by
   rw [aK] at r;cases r with
   | cons h t=>exact .cons (CB h) (G2 t)
abbrev KT (H:Hp):List (List Key × V)->List (List Key × Addr × Value)->Prop:=Paired fun p q=>p.1=q.1/\H q.2.1=some (.tup (p.1.map kV))/\RelV p.2 q.2.2
theorem KT.val {H:Hp} {kvs:List (List Key × V)} {xs:List (List Key × Addr × Value)} (r:KT H kvs xs) (k:List Key):RelO (gN kvs k) ((atKey xs k).map (·.2)):=by
 induction r with
 | nil=>exact True.intro
 | @cons p q ps qs h t ih =>
   obtain ⟨h1,_,h2⟩:=h;by_cases e:p.1=k
   . have e':q.1=k:=h1.symm.trans e;have b:atKey (q::qs) k=some q.2:=(by simp [atKey,fA,e']);rw [jd e,b];exact h2
   . have e':¬ q.1=k:=fun z=>e (h1.trans z);have b:atKey (q::qs) k=atKey qs k:=(by simp [atKey,fA,e']);rw [jk e,b];exact ih
theorem KT.repl {H:Hp} {kvs:List (List Key × V)} {xs:List (List Key × Addr × Value)} (r:KT H kvs xs) (k:List Key) {y:V} {u:Value} (ry:RelV y u) :
   KT H (kvs.map fun kv=>if kv.1=k then (kv.1,y) else kv) (xs.map (putAt k u)):=by
 induction r with
 | nil=>exact .nil
 | @cons p q ps qs h t ih =>
   rw [aK,aK];refine .cons ?_ ih;obtain ⟨h1,h2,h3⟩:=h;unfold putAt;by_cases e:p.1=k
   . rw [ag e,ag (h1.symm.trans e)];exact ⟨h1,h2,ry⟩
   . rw [aa e,aa (fun z=>e (h1.trans z))];exact ⟨h1,h2,h3⟩
theorem KT.put {H:Hp} {kvs:List (List Key × V)} {xs:List (List Key × Addr × Value)} (r:KT H kvs xs) (k:List Key) {b:Addr} {y:V} {u:Value} (hb:H b=some (.tup (k.map kV))) (ry:RelV y u) :
   KT H (ip kvs k y) (storedH xs k b u):=by
 have e:(kvs.any fun kv=>decide (kv.1=k))=(atKey xs k).isSome:=by
   rw [wm,(r.val k).isSome_eq,fI]
 unfold ip storedH;rw [e];by_cases q:(atKey xs k).isSome=true
 . rw [ag q,ag q];exact r.repl k ry
 . rw [aa q,aa q];exact Paired.snoc r ⟨rfl,hb,ry⟩
theorem KT.keeps {H H':Hp} {kvs:List (List Key × V)} {xs:List (List Key × Addr × Value)} (r:KT H kvs xs) (ht:∀ b ys,H b=some (.tup ys)->H' b=some (.tup ys)):KT H' kvs xs :=
 Paired.mapP r fun _ _ z=>⟨z.1,ht _ _ z.2.1,z.2.2⟩
section
variable {P:Program} {w:World} {H:Hp} {h:Heap} {a:Addr}
theorem TF {u:HO} (ok:HOk P w H h) (e:Rd H a u):ObjOk P w H h a u:=e.ok ok
theorem Cv {kvs:List (Key × V)} (ok:HOk P w H h) (e:Rd H a (.dK kvs)):kvs.length<=sizeLine/\(a == sysModules)=false/\∃ vs,KV kvs vs/\h.DictOf (bz P w) a vs :=
 show ObjOk P w H h a (.dK kvs) from TF ok e
theorem TQ {kvs:List (Key × V)} (ok:HOk P w H h) (e:H a=some (.dK kvs)):kvs.length<=sizeLine/\(a == sysModules)=false/\∃ vs,KV kvs vs/\h.DictOf (bz P w) a vs:=Cv ok (.inl e)
theorem yQ {ks:List Key} (ok:HOk P w H h) (e:H a=some (.tup (ks.map kV))):(tupleKind (bz P w)).is h ks a:=by
 obtain ⟨_,its,r,o,h1,h2,n,h3⟩:=(show ObjOk P w H h a (.tup (ks.map kV)) from ok a _ e);exact ⟨o,its.toArray,n,h1,h2,h3,by simpa using G2 r⟩
theorem EH {kvs:List (List Key × V)} (ok:HOk P w H h) (e:Rd H a (.dT kvs)):kvs.length<=sizeLine/\(a == sysModules)=false /\
   ∃ xs,KT H kvs xs/\h.DictOfH (tupleKind (bz P w)) a xs:=by
 obtain ⟨z,y,xs,r,o,es,ep,h1,h2,h3,h4,h5⟩:=(show ObjOk P w H h a (.dT kvs) from TF ok e);refine ⟨z,y,xs,r,o,es,ep,h1,h2,h3,h4,fun x hx=>?_,h5⟩;have all:∀ {l:List (List Key × V)} {m:List (List Key × Addr × Value)},KT H l m->∀ x∈m,(tupleKind (bz P w)).is h x.1 x.2.1:=by
   intro l m q
   induction q with
   | nil=>intro x hx;exact nomatch hx
   | @cons p q ps qs hq t ih =>
     intro x hx;rcases az.mp hx with e|hx
     . subst e;exact yQ ok (by rw [<- hq.1];exact hq.2.1)
     . exact ih x hx
 exact all r x hx
theorem Wv {kvs:List (List Key × V)} (ok:HOk P w H h) (e:H a=some (.dT kvs)):kvs.length<=sizeLine/\(a == sysModules)=false /\
   ∃ xs,KT H kvs xs/\h.DictOfH (tupleKind (bz P w)) a xs:=EH ok (.inl e)
end
def DGet (H:Hp) (a:Addr) (y:V) (r:Option V):Prop :=
 (∃ kvs k,Rd H a (.dK kvs)/\y=kV k/\r=gN kvs k)\/∃ kvs k b,Rd H a (.dT kvs)/\y=.ref b/\H b=some (.tup (k.map kV))/\r=gN kvs k
def DPut (H:Hp) (a:Addr) (y v:V) (H':Hp):Prop :=
 (∃ kvs k,H a=some (.dK kvs)/\y=kV k/\kvs.length<sizeLine/\H'=upd H a (.dK (ip kvs k v))) \/
 ∃ kvs k b,H a=some (.dT kvs)/\y=.ref b/\H b=some (.tup (k.map kV))/\kvs.length<sizeLine/\H'=upd H a (.dT (ip kvs k v))
theorem DGet.k {H:Hp} {a:Addr} {kvs:List (Key × V)} {k:Key} (e:H a=some (.dK kvs)):DGet H a (kV k) (gN kvs k):=.inl ⟨kvs,k,.inl e,rfl,rfl⟩
theorem DGet.t {H:Hp} {a b:Addr} {kvs:List (List Key × V)} {k:List Key} (e:H a=some (.dT kvs)) (eb:H b=some (.tup (k.map kV))):DGet H a (.ref b) (gN kvs k):=.inr ⟨kvs,k,b,.inl e,rfl,eb,rfl⟩
theorem DPut.k {H:Hp} {a:Addr} {kvs:List (Key × V)} {k:Key} {v:V} (e:H a=some (.dK kvs)) (hl:kvs.length<sizeLine):DPut H a (kV k) v (upd H a (.dK (ip kvs k v))):=.inl ⟨kvs,k,e,rfl,hl,rfl⟩
theorem DPut.t {H:Hp} {a b:Addr} {kvs:List (List Key × V)} {k:List Key} {v:V} (e:H a=some (.dT kvs)) (eb:H b=some (.tup (k.map kV))) (hl:kvs.length<sizeLine) :
   DPut H a (.ref b) v (upd H a (.dT (ip kvs k v))):=.inr ⟨kvs,k,b,e,rfl,eb,hl,rfl⟩
section
variable {X:Cx} {pins:List (Addr × Obj)} {σ:St} {H:Hp} {s:Shared} {a:Addr} {y v:V} {u r:Value} {o:Option V} {A:Around} {E:Value->Shared->Prop}
theorem Inv.big (I:Inv X pins σ H s):sysModules<s.heap.objs.size:=by
 have h:mainGlobals<s.heap.objs.size:=(I.mod.glob.keeps I.bk).lt;exact oC (by decide) h
theorem Qc {Q:Value->Shared->Prop} (hu:A.units+1<cLine) (I:Inv X pins σ H s) (g:DGet H a y (some v)) (ry:RelV y u) (h:∀ w' s',Inv X pins σ H s'->RelV v w'->Q w' s') :
   wpAny (model X.prog X.w) A (getItem (.ref a) u) Q E s:=by
 rcases g with ⟨kvs,k,e,ey,l⟩|⟨kvs,k,b,e,ey,eb,l⟩
 . subst ey;obtain ⟨z,hd,vs,rel,dd⟩:=Cv I.hok e;obtain ⟨w',hw,rw'⟩:=RelO.some_of (v:=v) (o:=valueAt vs k) (by rw [l];exact rel.val k);exact wpAny_getItem_of (CB ry) dd.mapOf hw (h w' _ (I.tok _) rw')
 . subst ey;cases (show u=Value.ref b from ry);obtain ⟨z,hd,xs,rel,dd⟩:=EH I.hok e;obtain ⟨w',hw,rw'⟩:=RelO.some_of (v:=v) (o:=(atKey xs k).map (·.2)) (by rw [l];exact rel.val k);obtain ⟨p,hp,hp2⟩:=cM.mp hw;refine wpAny_getItem_heap (tupleKind_room_in1 hu) (yQ I.hok eb) dd hp ?_;rw [hp2];exact h w' _ (I.tok _) rw'
theorem WK {Q:Value->Shared->Prop} (hu:A.units+1<cLine) (I:Inv X pins σ H s) (g:DGet H a y o) (ry:RelV y u) (h:∀ s',Inv X pins σ H s'->Q (.bool o.isSome) s') :
   wpAny (model X.prog X.w) A (compareOp .In u (.ref a)) Q E s:=by
 rcases g with ⟨kvs,k,e,ey,l⟩|⟨kvs,k,b,e,ey,eb,l⟩
 . subst ey;obtain ⟨z,hd,vs,rel,dd⟩:=Cv I.hok e;refine wpAny_in_of (CB ry) hd dd.mapOf ?_;rw [<- (rel.val k).isSome_eq,<- l];exact h _ (I.tok _)
 . subst ey;cases (show u=Value.ref b from ry);obtain ⟨z,hd,xs,rel,dd⟩:=EH I.hok e;refine wpAny_in_heap (tupleKind_room_in1 hu) (yQ I.hok eb) hd dd ?_;have q:=(rel.val k).isSome_eq;rw [fI] at q;rw [<- q,<- l];exact h _ (I.tok _)
theorem UN {Q:Value->Shared->Prop} (hu:A.units+1<cLine) (I:Inv X pins σ H s) (g:DGet H a y o) (ry:RelV y u) (h:∀ s',Inv X pins σ H s'->Q (.bool (!o.isSome)) s') :
   wpAny (model X.prog X.w) A (compareOp .NotIn u (.ref a)) Q E s:=by
 rcases g with ⟨kvs,k,e,ey,l⟩|⟨kvs,k,b,e,ey,eb,l⟩
 . subst ey;obtain ⟨z,hd,vs,rel,dd⟩:=Cv I.hok e;refine wpAny_notIn_of (CB ry) hd dd.mapOf ?_;rw [<- (rel.val k).isSome_eq,<- l];exact h _ (I.tok _)
 . subst ey;cases (show u=Value.ref b from ry);obtain ⟨z,hd,xs,rel,dd⟩:=EH I.hok e;refine wpAny_notIn_heap (tupleKind_room_in1 hu) (yQ I.hok eb) hd dd ?_;have q:=(rel.val k).isSome_eq;rw [fI] at q;rw [<- q,<- l];exact h _ (I.tok _)
theorem F2 {h':Heap} {t':Nat} {ob:HO} (I:Inv X pins σ H s) (mu:Mut (H a)) (hs:Heap.SameBut a s.heap h') (he:∃ q,h'.get? a=some q) (new:ObjOk X.prog X.w (upd H a ob) h' a ob) :
   Inv X pins σ (upd H a ob) { s with heap:=h',toks:=t' } :=
 I.write (x:=a) (e:=a) mu (.inl rfl) (fun b q hb z=>(hs.2 b hb).trans z) he new
theorem Pz {P:Program} {w:World} {H':Hp} {h':Heap} {kvs:List (Key × V)} {vs:List (Key × Value)} (z:kvs.length<=sizeLine) (hd:(a == sysModules)=false) (rel:KV kvs vs) (dd:h'.DictOf (bz P w) a vs) :
   ObjOk P w H' h' a (.dK kvs):=⟨z,hd,vs,rel,dd⟩
theorem PR {H':Hp} {Q:Unit->Shared->Prop} (hu:A.units+1<cLine) (I:Inv X pins σ H s) (g:DPut H a y v H') (ry:RelV y u) (rv:RelV v r) (h:∀ s',Inv X pins σ H' s'->Q () s') :
   wpAny (model X.prog X.w) A (setItem (.ref a) u r) Q E s:=by
 rcases g with ⟨kvs,k,e,ey,l,eH⟩|⟨kvs,k,b,e,ey,eb,l,eH⟩
 . subst ey eH;obtain ⟨z,hd,vs,rel,dd⟩:=TQ I.hok e;have hz:vs.length<=sizeLine:=by rw [<- rel.length];exact z
   have hl:(ip kvs k v).length<=sizeLine:=by have:=qO kvs k v;omega
   refine wpAny_setItem_pairs (hsz:=hz) (CB ry) dd fun h' dd' hs=>h _ ?_;have he:∃ q,h'.get? a=some q:=let ⟨q,_,_,hq,_⟩:=dd';⟨q,hq⟩;exact F2 I (by rw [e];exact True.intro) hs he (Pz hl hd (rel.put k rv) dd')
 . subst ey eH;cases (show u=Value.ref b from ry);obtain ⟨z,hd,xs,rel,dd⟩:=Wv I.hok e;have hz:xs.length<=sizeLine:=by rw [<- Paired.length rel];exact z
   have hl:(ip kvs k v).length<=sizeLine:=by have:=qO kvs k v;omega
   refine wpAny_setItem_heap (hsz:=hz) (tupleKind_room_in1 hu) (yQ I.hok eb) dd fun h' dd' hs=>h _ ?_;obtain ⟨q,es,ep,hq,h2,h3,h4,_,h5⟩:=dd';refine F2 I (by rw [e];exact True.intro) hs ⟨q,hq⟩ ⟨hl,hd,_,(rel.put k eb rv).keeps fun c ys ec=>?_,q,es,ep,hq,h2,h3,h4,h5⟩;rw [aX (oW ec e (fun z=>nomatch z))];exact ec
end
section
variable {X:Cx} {pins:List (Addr × Obj)} {σ:St} {H:Hp} {s:Shared} {a:Addr} {kvs:List (Key × V)} {k:Key} {u:Value} {A:Around} {E:Value->Shared->Prop}
theorem Wy {Q:Value->Shared->Prop} (I:Inv X pins σ H s) (e:Rd H a (.dK kvs)) (h:∀ t s',Inv X pins σ H s'->Q (.int kvs.length t) s'):wpAny (model X.prog X.w) A (call (.builtin "len") [.ref a]) Q E s:=by
 obtain ⟨z,hd,vs,rel,dd⟩:=Cv I.hok e;refine call_len_dict hd dd (by rw [<- rel.length];rw [sizeLine_eq] at z;omega) ?_;rw [<- rel.length];exact h _ _ (I.tok _)
end
def V8 (i:Expr):Prop:=∀ ov iv,subscripted i false ov iv=operate [ov,iv] (getItem ov iv)
theorem UP {prog:Program} {w:World} {A:Around} {E:Value->Shared->Prop} {s:Shared} {env:Env} {value slice:Expr} {pos:Pos} {T id:String} {Q:Value->Shared->Prop}
   (hl:typeLookup (.type T) "__getitem__"=pure (some (.builtin id))) (hs:V8 slice)
   (h:wpAny (model prog w) A (eval value env) (fun o s₁=>wpAny (model prog w) A (eval slice env) (fun i s₂=>s₂.TypeIs o T/\wpAny (model prog w) A (getItem o i) Q E s₂) E s₁) E s) :
   wpAny (model prog w) A (eval (.Subscript value slice pos) env) Q E s:=by
 refine Subscript_ (cJ h (fun o s₁ h₁=>cJ h₁ (fun i s₂ h₂=>?_) fun _ _ x=>x) fun _ _ x=>x);obtain ⟨hT,h₂⟩:=h₂;unfold subscriptTail;refine aj ?_;rw [getitemInPython_of_ne hT.not_modules];refine aj (wpAny_specialOf hT hl ?_);have fin:wpAny (model prog w) A (subscripted slice false o i) (fun r s₃=>wpAny (model prog w) A (letTemporaryGo value o r >>= fun _=>pure r) Q E s₃) E s₂:=by
   rw [hs o i];exact wpAny_operating (cJ h₂ (fun r s₃ h₃=>aj (wpAny_letTemporaryGo (ap h₃))) fun _ _ x=>x)
 first
   | exact ap (aj fin)
   | exact aj (ap (aj fin))
   | exact aj fin
theorem Ld {X:Cx} {pins:List (Addr × Obj)} {σ:St} {H:Hp} {s:Shared} {a:Addr} {y:V} {o:Option V} (I:Inv X pins σ H s) (g:DGet H a y o):s.TypeIs (.ref a) "dict":=by
 rcases g with ⟨kvs,k,e,_,_⟩|⟨kvs,k,b,e,_,_,_⟩
 . obtain ⟨_,_,vs,_,dd⟩:=Cv I.hok e;exact dd.typeIs
 . obtain ⟨_,_,xs,_,dd⟩:=EH I.hok e;exact dd.typeIs
def NG (td ty:TE):TE:=fun σ H Q=>td σ H fun x H1=>ty σ H1 fun y H2=>∃ a v,x=.ref a/\DGet H2 a y (some v)/\Q v H2
def SJ (ty td:TE):TE:=fun σ H Q=>ty σ H fun y H1=>td σ H1 fun x H2=>∃ a o,x=.ref a/\DGet H2 a y o/\Q (.bl o.isSome) H2
def Gq (ty td:TE):TE:=fun σ H Q=>ty σ H fun y H1=>td σ H1 fun x H2=>∃ a o,x=.ref a/\DGet H2 a y o/\Q (.bl (!o.isSome)) H2
def OD (td ty tv:TE):TS:=fun D σ H=>tv σ H fun v H1=>td σ H1 fun x H2=>ty σ H2 fun y H3=>∃ a H4,x=.ref a/\DPut H3 a y v H4/\D.nx σ H4
section
variable {X:Cx} {o i e value:Expr} {pos pos' tpos:Pos} {td ty tv:TE}
theorem CJ (hu:X.A.units+1<cLine) (ho:PE X o td) (hi:PE X i ty) (hs:V8 i):PE X (.Subscript o i pos) (NG td ty):=by
 intro pins s σ H Q I h;refine UP PySem.F.slot_dict_getitem.lookup hs (dB (ho pins s σ H _ I h) fun u s1 x H1 I1 rx q1=>dB (hi pins s1 σ H1 _ I1 q1) fun iv s2 y H2 I2 ry ⟨a,v,ex,g,q2⟩=>?_);subst ex;obtain rfl:u=Value.ref a:=rx;exact ⟨Ld I2 g,Qc hu I2 g ry fun w' s3 I3 rw'=>⟨v,H2,I3,rw',q2⟩⟩
theorem Vx (hu:X.A.units+1<cLine) (hi:PE X i ty) (ho:PE X o td):PC X .In i o (SJ ty td):=by
 intro pins s σ H Q I h;refine dB (hi pins s σ H _ I h) fun iv s1 y H1 I1 ry q1=>dB (ho pins s1 σ H1 _ I1 q1) fun u s2 x H2 I2 rx ⟨a,ov,ex,g,q2⟩=>?_;subst ex;obtain rfl:u=Value.ref a:=rx;exact WK hu I2 g ry fun s3 I3=>⟨.bl ov.isSome,H2,I3,rfl,q2⟩
theorem GX (hu:X.A.units+1<cLine) (hi:PE X i ty) (ho:PE X o td):PC X .NotIn i o (Gq ty td):=by
 intro pins s σ H Q I h;refine dB (hi pins s σ H _ I h) fun iv s1 y H1 I1 ry q1=>dB (ho pins s1 σ H1 _ I1 q1) fun u s2 x H2 I2 rx ⟨a,ov,ex,g,q2⟩=>?_;subst ex;obtain rfl:u=Value.ref a:=rx;exact UN hu I2 g ry fun s3 I3=>⟨.bl (!ov.isSome),H2,I3,rfl,q2⟩
theorem Gj (hu:X.A.units+1<cLine) (ho:PE X o td) (hi:PE X i ty) (hv:PE X value tv) (hs:swapsWith value (some (.Subscript o i pos')) pos.line X.env=pure false) :
   PS X (.Assign [.Subscript o i pos'] value pos) (OD td ty tv):=by
 intro pins s σ H D I h;refine wpAny_Assign_Subscript (dB (hv pins s σ H _ I h) fun r s1 v H1 I1 rv q1=>dB (ho pins s1 σ H1 _ I1 q1) fun u s2 x H2 I2 rx q2=>dB (hi pins s2 σ H2 _ I2 q2) fun iv s3 y H3 I3 ry ⟨a,H4,ex,g,q3⟩=>?_) hs;subst ex;obtain rfl:u=Value.ref a:=rx;exact PR hu I3 g ry rv fun s4 I4=>⟨σ,H4,I4,q3⟩
end
theorem R5 {P:Program} {w:World} {H:Hp} (h:Heap) (hb:sysModules<h.objs.size):ObjOk P w H (h.push { cls:=.type "dict",data:=.dict #[] }) h.objs.size (.dK []) :=
 ⟨bo _,beq_eq_false_iff_ne.mpr (Ne.symm (aO hb)),[],.nil,Heap.DictOf.new h⟩
theorem RF {P:Program} {w:World} {H:Hp} (h:Heap) (hb:sysModules<h.objs.size):ObjOk P w H (h.push { cls:=.type "dict",data:=.dict #[] }) h.objs.size (.dT []) :=
 ⟨bo _,beq_eq_false_iff_ne.mpr (Ne.symm (aO hb)),[],.nil,_,#[],0,bg _ rfl,⟨rfl,rfl,rfl⟩,rfl,rfl,iX⟩
def QS:TE:=fun _ H Q=>∀ p,H p=none->Q (.ref p) (upd H p (.dK []))
def tDNewT:TE:=fun _ H Q=>∀ p,H p=none->Q (.ref p) (upd H p (.dT []))
section
variable {X:Cx} {pos:Pos}
theorem Tk:PE X (.Dict [] [] pos) tDNewT:=fun pins s σ H Q I h =>
 wpAny_Dict_empty ⟨.ref s.heap.objs.size,_,I.laid (a:=s.heap.objs.size) (o:=.dT []) (t':=s.toks) (fun _ _ q=>aJ _ q) (aI _) (RF s.heap I.big),rfl,h _ (I.hok.fresh (aI _))⟩
end
def yu:List (TE × TE)->St->Hp->(List (V × V)->Hp->Prop)->Prop
 | [],_,H,Q=>Q [] H
 | (tk,tv)::r,σ,H,Q=>tk σ H fun x H1=>tv σ H1 fun y H2=>yu r σ H2 fun ps H3=>Q ((x,y)::ps) H3
abbrev VV:List (V × V)->List (Value × Value)->Prop:=Paired fun p q=>RelV p.1 q.1/\RelV p.2 q.2
def PPs (X:Cx) (pos:Pos) (keys:List (Option Expr)) (values:List Expr) (trs:List (TE × TE)):Prop :=
 ∀ (pins:List (Addr × Obj)) (s:Shared) (σ:St) (H:Hp) (Q:List (V × V)->Hp->Prop),Inv X pins σ H s->yu trs σ H Q ->
   wpAny (model X.prog X.w) X.A (evalPairs (pairTrees keys values X.env pos)) (fun vs s'=>∃ ps H',Inv X pins σ H' s'/\VV ps vs/\Q ps H') X.xe s
theorem Uc {X:Cx} {pos:Pos}:PPs X pos [] [] []:=fun pins s σ H Q I h=>pairTrees_nil_walk ⟨[],H,I,.nil,h⟩
theorem RM {X:Cx} {pos:Pos} {k v:Expr} {ks:List (Option Expr)} {vs:List Expr} {tk tv:TE} {trs:List (TE × TE)} (hk:PE X k tk) (hv:PE X v tv) (hr:PPs X pos ks vs trs) :
   PPs X pos (some k::ks) (v::vs) ((tk,tv)::trs):=fun pins s σ H Q I h =>
 pairTrees_cons_walk (dB (hk pins s σ H _ I h) fun u s1 x H1 I1 rx q1=>dB (hv pins s1 σ H1 _ I1 q1) fun w2 s2 y H2 I2 ry q2 =>
   thn (hr pins s2 σ H2 _ I2 q2) fun ws s3 ⟨ps,H3,I3,rel,q3⟩=>⟨(x,y)::ps,H3,I3,.cons ⟨rx,ry⟩ rel,q3⟩)
def yO (kvs more:List (Key × V)):List (Key × V):=more.foldl (fun acc kv=>ip acc kv.1 kv.2) kvs
theorem KV.merge:∀ {more:List (Key × V)} {rs:List (Key × Value)} {kvs:List (Key × V)} {vs:List (Key × Value)},KV more rs->KV kvs vs->KV (yO kvs more) (merged vs rs):=by
 intro more rs kvs vs r;unfold KV at r
 induction r generalizing kvs vs with
 | nil=>intro q;exact q
 | @cons p q ps qs h t ih =>
   intro r0;have e:KV (ip kvs p.1 p.2) (stored vs q.1 q.2):=by
     have:=r0.put p.1 h.2;rw [<- h.1];exact this
   exact ih e
theorem AE:∀ (more kvs:List (Key × V)),(yO kvs more).length<=kvs.length+more.length
 | [],kvs=>by show kvs.length<=kvs.length+0;omega
 | p::r,kvs=>by
   have h1:=AE r (ip kvs p.1 p.2);have h2:=qO kvs p.1 p.2;show (yO (ip kvs p.1 p.2) r).length<=_;rw [aL];omega
theorem Fk {P:Program} {w:World}:∀ {kvs:List (Key × V)} {ws:List (Value × Value)},VV (kvs.map fun kv=>(kV kv.1,kv.2)) ws->∃ rs,Carries (bz P w) ws rs/\KV kvs rs
 | [],_,r=>by rw [ff] at r;cases r;exact ⟨[],True.intro,.nil⟩
 | p::kvs,_,r=>by
   rw [aK] at r;cases r with
   | @cons a b as bs h t =>
     obtain ⟨rs,c,q⟩:=Fk (P:=P) (w:=w) t;obtain ⟨b1,b2⟩:=b;exact ⟨(p.1,b2)::rs,⟨CB h.1,rfl,c⟩,.cons ⟨rfl,h.2⟩ q⟩
def OB (trs:List (TE × TE)):TE:=fun σ H Q=>∀ p,H p=none->yu trs σ (upd H p (.dK [])) fun ps H2=>H2 p=some (.dK [])/\∃ kvs:List (Key × V),ps=kvs.map (fun kv=>(kV kv.1,kv.2))/\kvs.length<=15/\Q (.ref p) (upd H2 p (.dK (yO [] kvs)))
theorem U9 {X:Cx} {pos:Pos} {keys:List (Option Expr)} {values:List Expr} {trs:List (TE × TE)} (h:PPs X pos keys values trs) (hall:keys.all (·.isSome)=true) (hl:keys.length=values.length) (h0:keys≠[])
   (h15:keys.length<=15):PE X (.Dict keys values pos) (OB trs):=by
 intro pins s σ H Q I q;have hn:=I.hok.fresh (aI s.heap.objs.size);have I1:=I.laid (a:=s.heap.objs.size) (o:=.dK []) (h':=s.heap.push { cls:=.type "dict",data:=.dict #[] }) (t':=s.toks) (fun _ _ q=>aJ _ q) (aI _) (R5 s.heap I.big);refine wpAny_Dict_walk (knd:=bz X.prog X.w) hall hl h0 h15 (thn (h pins _ σ _ _ I1 (q _ hn)) fun ws s2 ⟨ps,H2,I2,rel,e,kvs,ep,lk,q2⟩=>?_);subst ep;obtain ⟨rs,c,rk⟩:=Fk (P:=X.prog) (w:=X.w) rel;obtain ⟨z,hd,vs0,r0,dd⟩:=TQ I2.hok e;cases r0;refine ⟨rs,c,dd,fun h' dd' hs=>⟨.ref s.heap.objs.size,_,?_,rfl,q2⟩⟩;have hz:(yO [] kvs).length<=sizeLine:=by
   have h1:=AE kvs [];rw [fB] at h1;rw [sizeLine_eq];omega
 have he:∃ q,h'.get? s.heap.objs.size=some q:=let ⟨q,_,_,hq,_⟩:=dd';⟨q,hq⟩;exact F2 I2 (by rw [e];exact True.intro) hs he (Pz hz hd (rk.merge .nil) dd')
end L2
namespace Att
open PySem PySem.W PySem.Calls PyProof.Rows
theorem Ft {P:Params} {h:Heap}:∀ (ns:List Int) (vs:List Value),WellAll P h vs (ns.map WData.int)->IntsAre vs ns:=by
 intro ns
 induction ns with
 | nil =>
   intro vs w;rw [ff] at w;cases w;exact .nil
 | cons n ns ih =>
   intro vs w;rw [aK] at w;cases w with
   | cons a b =>
     cases a;exact .cons _ _ (ih _ b)
theorem Pd {l:OpenLaw} {n:Nat} (hn:l.most=some n) {P:Params} {h:Heap} {args:List WData} {vals:List Value}
   (hpre:l.row.toRowW.claim.pre args=true) (hwl:WellAll P h vals args) :
   ∃ a vs ns,vals=[Value.ref a]/\args=[WData.list (ns.map WData.int)]/\h.get? a=some { cls:=.type "list",data:=.seq vs.toArray }/\IntsAre vs ns/\ns.length<=n:=by
 have hsh:WShape.hasAll [] args [.list .int]=true:=(pre_splitW hpre).1;have hc:l.pre.holds [] { args:=args }=true:=(pre_splitW hpre).2;obtain ⟨d,r,rfl,h1,h2⟩:=hasAllW_cons hsh;obtain rfl:=hasAllW_nil h2;obtain ⟨xs,rfl,h3⟩:=hasW_list h1;obtain ⟨ns,rfl⟩:=items_int h3;have hlen:ns.length<=n:=by
   unfold OpenLaw.pre at hc;have h4:(WTm.not (.lt (.lit (.int (n:Int))) (.len (.arg 0)))).holds [] { args:=[.list (ns.map .int)] }=true:=by
     have h4:=(holds_andW hc).1;rw [hn] at h4;exact h4
   have h5:=condW_of h4 (w_not (w_lt w_lit (w_len_list (w_arg rfl))));rw [ai] at h5;refine Nat.le_of_not_lt fun q=>?_;have q':(n:Int)<((ns.length:Nat):Int):=by omega
   first
     | (rw [aW q'] at h5;exact absurd h5 (by decide))
     | (simp at h5;omega)
 cases hwl with
 | cons w1 w2 =>
   cases w2;cases w1 with
   | list ho hall=>exact ⟨_,_,ns,rfl,rfl,ho,Ft ns _ hall,hlen⟩
theorem Qy (l:OpenLaw) (args:List WData):l.row.toRowW.claim.post args (.bool true) args=true :=
 postW_of (r:=l.row.toRowW) (X:=(true == true))
   (show WShape.has [] (.bool true) .bool=true by first|rfl|decide|simp [WShape.has,WShape.arms,WShape.armsAll])
   (show (WTm.eq .res (.lit (.bool true))).value [] { args:=args,res:=some (.bool true),after:=args }=some (.bool (true == true)) from w_eq_bool (w_res rfl) w_lit) rfl
theorem attach_call {l:OpenLaw} {n:Nat} {q:Program} {loose:List Str} {XP:(Str->Option Value)->Heap->Prop} {YP:World->Heap->Prop} {d:DefRec}
   (hn:l.most=some n) (hdf:d.params.defaults=[])
   (call:∀ (w:World) (s₀ s₁:Shared) (mg mb:Str->Option Value) (fa:Addr) (o:Obj) (pm cd doc:Value) (a:Addr) (vs:List Value) (ns:List Int),
     Ground q loose [] XP w s₀ mg mb s₁.heap->YP w s₁.heap ->
     s₁.heap.get? fa=some o->o.data=.func (docDef d.name d.params d.body d.scope pm cd doc)->s₁.heap.CodeRec cd d.name->mg d.name=some (.ref fa) ->
     s₁.heap.get? a=some { cls:=.type "list",data:=.seq vs.toArray }->IntsAre vs ns->ns.length<=n->s₁.gens=#[] ->
     codeAny (model l.prog w) callerA (.call (.ref fa) ⟨[.ref a],[]⟩) (fun r s'=>r=.ok (.ret (.bool true))/\OldK s₁.heap s'.heap/\s'.os=s₁.os/\AllBare s'.gens) s₁) :
   WalkO q loose XP YP l.row.toRowW d [] (fun f vs=>PySem.call f vs):=by
 intro w s₀ s₁ mg mb G Y fa o pm cd doc dV kV ho hd hcd hD hmg hg args vals as hpre hlay hrd hwl hlo;obtain rfl:dV=.none:=Dflts.none hD hdf;obtain rfl:kV=.none:=Dflts.noKw hD;obtain ⟨a,vs,ns,rfl,rfl,hobj,hints,hlen⟩:=Pd hn hpre hwl;refine enter_call (km (call w s₀ s₁ mg mb fa o pm cd doc a vs ns G Y ho (fd_plain hd) hcd hmg hobj hints hlen hg) fun r s' hq=>?_);obtain ⟨rfl,h2,h3,h4⟩:=hq;exact ⟨.inl ⟨.bool true,.bool true,[],rfl,fun _=>rfl,.bool true,Qy l _,fun _=>⟨List.Pairwise.nil,fun _ hm=>(nomatch hm)⟩⟩,h2,h3,h4⟩
end Att
namespace L2
open PySem PySem.Spec PyProof.Rows
theorem Gs:∀ {vs:List Value} {ns:List Int},IntsAre vs ns->Vals (ns.map V.int) vs
 | _,_,.nil=>.nil
 | _,_,.cons n t h=>.cons ⟨t,rfl⟩ (Gs h)
def SH (H:Hp):Prop:=∀ b,H b=none\/∃ o xs,H b=some (.frz o (.lst xs))
theorem Q3 {P:Program} {w:World} {K:PySem.W.Frag} {mg mb:Str->Option Value} {CX:CXT} {k:Nat} {fa a:Addr} {fd:FuncData} {x:Str} {sp:Sp} {s₁:Shared} {vs:List Value} {ns:List Int}
   (KX:K.In s₁.heap) (hns:s₁.heap.Ns mainGlobals mg) (hb:s₁.heap.Ns builtinsNs mb) (hbb:∀ x:Str,x≠"__name__"->mb x=bootBuiltins x) (hlim:s₁.heap.NoLimit) (hg:s₁.gens=#[])
   (ha:s₁.heap.get? a=some { cls:=.type "list",data:=.seq vs.toArray }) (hi:IntsAre vs ns) (hl:ns.length<=sizeLine) (hr:Room k callerA)
   (F:∀ base:Heap,K.In base->base.Ns mainGlobals mg->FnOk P w K mg base CX k fa fd [x] sp) (hbind:∀ (s:Shared) (u:Value),BindsTo s fd ⟨[u],[]⟩ [(x,u)])
   (hsp:∀ H:Hp,SH H->SqL K H a (ns.map V.int)->sp [.ref a] H (fun v _=>v=.bl true) fun _ _ _=>False)
   (hCX:∀ H e s',CX [] H s₁ (fun _ _ _=>False) e s'->False) :
   codeAny (model P w) callerA (.call (.ref fa) ⟨[.ref a],[]⟩) (fun r s'=>r=.ok (.ret (.bool true))/\OldK s₁.heap s'.heap/\s'.os=s₁.os/\AllBare s'.gens) s₁:=by
 have rv:=Gs hi;have lenV:=hi.length;have core:∀ H:Hp,SH H->SqL K H a (ns.map V.int)->HOk P w H s₁.heap->(∀ b,H b≠none->b=a)->(H a≠none->K.lookup a=none) ->
     codeAny (model P w) callerA (.call (.ref fa) ⟨[.ref a],[]⟩) (fun r s'=>r=.ok (.ret (.bool true))/\OldK s₁.heap s'.heap/\s'.os=s₁.os/\AllBare s'.gens) s₁:=by
   intro H hO hS hok hA hK;have base_of:∀ {b:Addr} {o:Obj},s₁.heap.get? b=some o->H b=none->(za s₁.heap H).get? b=some o:=fun e n=>S7 e n;have noA:∀ {b:Addr} {o:Obj} {es:Array DictEntry} {ep:Nat},s₁.heap.get? b=some o->o.data=.dict es ep->H b=none:=fun {b o es ep} e d=>by
     cases q:H b with
     | none=>rfl
     | some u =>
       have e':b=a:=hA b (by rw [q];simp);subst e';rw [ha] at e;cases e;have d':Data.seq vs.toArray _=Data.dict es ep:=d;cases d'
   have nsK:∀ {b:Addr} {m:Str->Option Value},s₁.heap.Ns b m->(za s₁.heap H).Ns b m:=fun {b m} ⟨o,es,ep,e,d,r⟩=>⟨o,es,ep,base_of e (noA e d),d,r⟩;have hKb:K.In (za s₁.heap H):=fun b o e=>base_of (KX b o e) (by
     cases q:H b with
     | none=>rfl
     | some u =>
       have e':b=a:=hA b (by rw [q];simp);subst e';rw [hK (by rw [q];simp)] at e;cases e)
   have hM:Mod K mg (za s₁.heap H):=⟨hKb,nsK hns,⟨mb,nsK hb,hbb⟩,let ⟨mc,h1,h2⟩:=hlim;⟨mc,nsK h1,h2⟩⟩;have e0:Env0 P w K mg (za s₁.heap H) callerA [] s₁ H:=⟨rfl,hM,fun b o e=>U6 e,Nat.le_of_eq (Ps _ _),trivial,fun b hb=>absurd (show b∈([]:List Addr) from hb) (by simp),hok,.of_eq hg⟩;refine km ((F _ hKb (nsK hns)).run callerA [] s₁ H ⟨[.ref a],[]⟩ [.ref a] [.ref a] _ _ hr e0 (hbind s₁ (.ref a)) (.cons rfl .nil) (hsp H hO hS)) fun r s' h=>?_;cases r with
   | error e=>exact (hCX H e s' h).elim
   | ok fl =>
     cases fl with
     | next=>exact False.elim h
     | brk=>exact False.elim h
     | cont=>exact False.elim h
     | ret u =>
       obtain ⟨v,H',os,bare,un,hok',r',q⟩:=h;have q':v=.bl true:=q;subst q';obtain rfl:u=Value.bool true:=r';refine ⟨rfl,OldK.of_keep fun b o e=>?_,os,bare⟩;cases q:H b with
       | none=>exact un.keep b o e q (by intro z;exact absurd (show b∈([]:List Addr) from z) (by simp)) (by simp)
       | some u =>
         rcases hO b with z|⟨ob,xs,z⟩
         . rw [q] at z;cases z
         . have z2:=un.frzs b ob _ z;obtain ⟨e1,_⟩:=hok b _ z;obtain ⟨e2,_⟩:=hok' b _ z2;rw [e] at e1;cases e1;exact e2
 cases hk:K.lookup a with
 | some o =>
   have e:=KX a o hk;rw [ha] at e;cases e;refine core (fun _=>none) (fun _=>.inl rfl) (.inr ⟨_,vs.toArray,_,hk,rfl,rfl,rfl,by rw [aD,lenV];exact hl,by simpa using rv⟩) (fun b u z=>by have z':(none:Option HO)=some u:=z;cases z') (fun b z=>absurd rfl z) fun z=>absurd rfl z
 | none =>
   refine core (fun b=>if b=a then some (.frz { cls:=.type "list",data:=.seq vs.toArray } (.lst (ns.map V.int))) else none) (fun b=>?_) (.inl (.inr ⟨{ cls:=.type "list",data:=.seq vs.toArray },ag rfl⟩)) (fun b u z=>?_) (fun b z=>?_) fun _=>hk
   . by_cases hb:b=a
     . exact .inr ⟨_,_,ag hb⟩
     . exact .inl (aa hb)
   . by_cases hb:b=a
     . have z':=(ag hb).symm.trans z;cases z';subst hb;exact ⟨ha,by rw [ai];exact hl,vs,_,rv,ha⟩
     . have z':=(aa hb).symm.trans z;cases z'
   . by_cases hb:b=a
     . exact hb
     . exact absurd (aa hb) z
end L2
namespace L2
open PySem PySem.Spec PyProof.Rows
theorem walk_of {l:PySem.W.OpenLaw} {n k:Nat} {q:Program} {loose:List Str} {XP:(Str->Option Value)->Heap->Prop} {YP:World->Heap->Prop} {d:DefRec} {K:Params->PySem.W.Frag} {CX:World->CXT} {sp:World->Sp} {x:Str}
   (hn:l.most=some n) (hn2:n<=sizeLine) (hdf:d.params.defaults=[]) (hr:Room k callerA)
   (hY:∀ (w:World) (h:Heap),YP w h->(K w.params).In h)
   (F:∀ (w:World) (mg:Str->Option Value) (fa:Addr) (h:Heap),(K w.params).In h->h.Ns mainGlobals mg->mg d.name=some (.ref fa) ->
     ∃ fd:FuncData,(∀ (s:Shared) (u:Value),BindsTo s fd ⟨[u],[]⟩ [(x,u)]) /\
       ∀ base:Heap,(K w.params).In base->base.Ns mainGlobals mg->FnOk l.prog w (K w.params) mg base (CX w) k fa fd [x] (sp w))
   (hsp:∀ (w:World) (H:Hp) (a:Addr) (ns:List Int),ns.length<=n->SH H->SqL (K w.params) H a (ns.map V.int)->sp w [.ref a] H (fun v _=>v=.bl true) fun _ _ _=>False)
   (hCX:∀ (w:World) (H:Hp) (s:Shared) (e:Value) (s':Shared),CX w [] H s (fun _ _ _=>False) e s'->False) :
   PySem.W.WalkO q loose XP YP l.row.toRowW d [] (fun f vs=>PySem.call f vs):=by
 refine Att.attach_call hn hdf fun w s₀ s₁ mg mb fa o pm cd doc a vs ns G Y ho hd hcd hmg hobj hints hlen hg=>?_;have KX:=hY w _ Y;obtain ⟨fd,hb,hF⟩:=F w mg fa _ KX G.T.g hmg;exact Q3 KX G.T.g G.T.b G.T.builtins G.T.nolimit hg hobj hints (bq hlen hn2) hr hF hb (fun H hO hS=>hsp w H a ns hlen hO hS) fun H e s'=>hCX w H s₁ e s'
end L2
namespace L2
open PySem PySem.Spec PyProof.Rows
def Ux (s:Stmt) (j:Nat):Stmt:=match s with
 | .ClassDef _ _ _ body _ _ _ _ _ _ _=>body.getD j (.Pass ⟨0,0,0,0⟩)
 | _=>.Pass ⟨0,0,0,0⟩
def bB (s:Stmt):Arguments:=match s with
 | .FunctionDef _ a _ _ _ _ _ _ _ _=>a
 | _=>{ posonlyargs:=[],args:=[],vararg:=none,kwonlyargs:=[],kw_defaults:=[],kwarg:=none,defaults:=[] }
def bw (s:Stmt):List Stmt:=match s with
 | .FunctionDef _ _ b _ _ _ _ _ _ _=>b
 | _=>[]
def ae (s:Stmt):Scope:=match s with
 | .FunctionDef _ _ _ _ _ _ sc _ _ _=>sc
 | _=>{ kind:=.function,names:=[],isGenerator:=false,isCoroutine:=false }
abbrev CX0:CXT:=fun _ _ _ _ _ _=>False
abbrev E0:XK:=fun _ _ _=>False
structure Fun (K:PySem.W.Frag) (x qual:Str) (st:Stmt) (f:Addr) (fd:FuncData):Prop where
 ex:∃ (oc:Value) (od:Option Addr) (kV doc pm:Value) (an:Option Addr) (cdv ct:Value) (osl:Array (Option Value)),
   fd=PySem.W.fnOf x qual (bB st) (bw st) (ae st) .none kV doc pm an cdv ct/\K.lookup f=some ⟨oc,od,.func fd,osl⟩/\PySem.W.codeIn K cdv qual=true
 kp:PySem.W.keepIn K (.ref f)=true
section
variable {P:Program} {w:World} {K:PySem.W.Frag} {mg:Str->Option Value} {base:Heap}
theorem Fun.binds {x qual:Str} {st:Stmt} {f:Addr} {fd:FuncData} {ps:List Str} (F:Fun K x qual st f fd)
   (h:∀ (kV doc pm:Value) (an:Option Addr) (cdv ct:Value) (us:List Value),us.length=ps.length->bindArgs (PySem.W.fnOf x qual (bB st) (bw st) (ae st) .none kV doc pm an cdv ct) ⟨us,[]⟩=pure (ps.zip us)):Binds K fd ps []:=by
 obtain ⟨oc,od,kV,doc,pm,an,cdv,ct,osl,rfl,lk,hcd⟩:=F.ex;exact .all (h kV doc pm an cdv ct)
theorem cq {x qual:Str} {st:Stmt} {f:Addr} {oc:Value} {od an:Option Addr} {osl:Array (Option Value)} {kV doc pm cdv ct:Value} (l:K.lookup f=some ⟨oc,od,.func (PySem.W.fnOf x qual (bB st) (bw st) (ae st) .none kV doc pm an cdv ct),osl⟩)
   (c:PySem.W.codeIn K cdv qual=true) (k:PySem.W.keepIn K (.ref f)=true):Fun K x qual st f (PySem.W.fnOf x qual (bB st) (bw st) (ae st) .none kV doc pm an cdv ct):=⟨⟨oc,od,kV,doc,pm,an,cdv,ct,osl,rfl,l,c⟩,k⟩
end
theorem wY {A:Around} {k:Nat} (hr:Room k A):A.units+1<cLine:=ju (Nat.add_le_add_left (by decide:1<=64) _) hr.units
section
variable {X:Cx}
theorem pv (i:Nat) {x:Str} {pos:Pos} (hN:X.N[i]?=some x:=by rfl) (hv:Vis X.env.scope x:=by first|exact Or.inl rfl|exact Or.inr (Or.inl rfl)|exact Or.inr (Or.inr rfl)) (hd:(x == ("__debug__":Str))=false:=by decide)
   (hcd:(x == ("__classdict__":Str))=false:=by decide):PE X (.Name x pos) (Gg i):=IH hN hv hd hcd
end
theorem WC {A B:Prop} (h:B):if false=true then A else B:=by
 rw [aa aV];exact h
theorem WB {A B:Prop} (h:A):if true=true then A else B:=by
 rw [ag rfl];exact h
def Same (H H':Hp):Prop:=∀ b o,H b=some o->H' b=some o
theorem Same.refl (H:Hp):Same H H:=fun _ _ h=>h
theorem Same.trans {H H1 H2:Hp} (a:Same H H1) (b:Same H1 H2):Same H H2:=fun c o h=>b c o (a c o h)
theorem Same.free {H H':Hp} (e:Same H H') {l:Addr} (h:H' l=Option.none):H l=Option.none:=by
 cases q:H l with
 | none=>rfl
 | some o =>
   rw [e l o q] at h;cases h
theorem Same.seq {K:PySem.W.Frag} {H H':Hp} {a:Addr} {xs:List V} (e:Same H H') (h:SqL K H a xs):SqL K H' a xs:=by
 rcases h with (h|⟨o,h⟩)|h
 . exact .inl (.inl (e _ _ h))
 . exact .inl (.inr ⟨o,e _ _ h⟩)
 . exact .inr h
end L2
namespace L2
open PySem PySem.Spec PyProof.Rows
section
variable {X:Cx}
theorem Pw:qb X (.builtin "len") (fun xs H Q=>∃ a kvs,xs=[V.ref a]/\H a=some (.dK kvs)/\Q (.int kvs.length) H):=by
 intro pins s σ H xs us Q I r h;obtain ⟨a,kvs,rfl,ha,q⟩:=h;obtain ⟨u,rfl,ru⟩:=wK r;cases ru;exact Wy I (.inl ha) fun t s' I'=>⟨.int kvs.length,H,I',⟨t,rfl⟩,q⟩
end
end L2
namespace L2
open PySem PySem.Spec PyProof.Rows
def Cx.comp (X:Cx) (Nc:List Str) (scope:Scope) (cl:List (Str × Addr)) (C:Addr) (s₂:Shared) (H₁:Hp) (fp:List Addr):Cx where
 prog:=X.prog
 w:=X.w
 K:=X.K
 mg:=X.mg
 base:=X.base
 A:=X.A
 N:=Nc
 s₀:=s₂
 H₀:=H₁
 env:=compEnvC scope cl C X.env
 outer:=X.stack
 stack:=X.stack
 ex:=fp
 fn:=fun _=>false
 calm:=X.calm
 pn:=[]
 xe:=fun _ _=>False
structure CompTxt (X:Cx) (Nc:List Str) (own:Nat) (js:List Nat) (scope:Scope) (cl:List (Str × Addr)):Prop where
 clos:closureFor scope X.env=pure cl
 kind:scope.kind=.function
 nocell:∀ y∈scope.names,y.2≠.cell
 names:∀ y∈scope.names,y.2=.local->scope.names.lookup y.1=some .local
 cells:∀ x c,cl.lookup x=some c->X.env.cells.lookup x=some c
 has:∀ x,((relabel scope X.env).names.lookup x=some .cell\/(relabel scope X.env).names.lookup x=some .free)->∃ c,cl.lookup x=some c
 len:Nc.length=own+js.length
 outer:∀ i x,Nc[own+i]?=some x->∃ j,js[i]?=some j/\X.N[j]?=some x/\X.env.scope.names.lookup x=some .cell/\(relabel scope X.env).names.lookup x=some .cell
def nI (own:Nat) (js:List Nat) (σ:St):St:=List.replicate own none++js.map fun j=>(σ[j]?).getD none
def O4 (own:Nat) (js:List Nat) (wi:TI) (g:TG) (tc:TT) (te:TE):TE:=fun σ H Q=>wi σ H fun J H1=>∀ p,H1 p=none ->
 ∃ W:Nat->Nat->List V->St->Hp->Prop,(∃ m,W 0 m [] (nI own js σ) (upd H1 p (.lst [])))/\∀ i m ys σc Hc,W i m ys σc Hc ->
   (J.stop i Hc/\Q (.ref p) Hc)\/(J.go i Hc/\∀ x H',J.yld i Hc x H'->g x σc H' fun σ2 H2=>tc σ2 H2 fun b H3 =>
     if b=true then te σ2 H3 fun y H4=>H4 p=some (.lst ys)/\ys.length<sizeLine/\∃ m',m'<m/\W (i+1) m' (ys++[y]) σ2 (upd H4 p (.lst (ys++[y])))
     else ∃ m',m'<m/\W (i+1) m' ys σ2 H3)
def PTs (X:Cx) (ifs:List Expr) (t:TT):Prop :=
 ∀ (pins:List (Addr × Obj)) (s:Shared) (σ:St) (H:Hp) (Q:Bool->Hp->Prop),Inv X pins σ H s->t σ H Q ->
   wpAny (model X.prog X.w) X.A (forIn ifs true fun c r=>if r=true then do let ok <- isTrue c X.env (eval c X.env);pure (ForInStep.yield ok) else pure (ForInStep.yield r)) (TP X pins σ Q) X.xe s
def tYes:TT:=fun _ H Q=>Q true H
theorem oq {X:Cx}:PTs X [] tYes:=fun pins s σ H Q I h=>wpAny_tests_nil ⟨H,I,h⟩
theorem MS {X:Cx} {c:Expr} {t:TT} (h:PT X c t):PTs X [c] t:=fun pins s σ H Q I q=>wpAny_tests_one (h pins s σ H Q I q)
section
variable {prog:Program} {w:World} {A:Around} {E:Value->Shared->Prop} {R:Result->Shared->Prop} {s:Shared}
theorem Dp {elt target iter:Expr} {ifs:List Expr} {scope:Scope} {pos:Pos} {it acc:Value} {env:Env} (I:Nat->Shared->Prop)
   (turn:∀ n s,I n s->wpAny (model prog w) A (pyNext it) (fun r s₁=>match r with
     | none=>R (.ok .next) s₁
     | some v=>wpAny (model prog w) A (letOwnedTupleGo target it v) (fun _ s₁'=>wpAny (model prog w) A (assign target env v) (fun _ s₂ =>
         wpAny (model prog w) A (forIn ifs true fun c r=>if r=true then do let ok <- isTrue c env (eval c env);pure (ForInStep.yield ok) else pure (ForInStep.yield r)) (fun ok s₃ =>
           if ok=true then wpAny (model prog w) A (eval elt env) (fun x s₄ =>
             wpAny (model prog w) A (call (.builtin "list.append") [acc,x]) (fun _ s₅=>∃ m,m<n/\I m s₅) (fun _ _=>False) s₄) (fun _ _=>False) s₃
           else ∃ m,m<n/\I m s₃) (fun _ _=>False) s₂) (fun _ _=>False) s₁') (fun _ _=>False) s₁) (fun _ _=>False) s)
   (n:Nat) (h:I n s) :
   codeAny (model prog w) A (.compLoop (.ListComp elt [⟨target,iter,ifs,0⟩] scope pos) 0 it acc env) R s:=by
 refine codeAny_loop rfl I (fun n s hI=>?_) n h;show wpAny _ A ((compTurn (.ListComp elt [⟨target,iter,ifs,0⟩] scope pos) 0 it acc env).onRaise (fun x=>do noteFrame x env;theTreesLotGoes x)) _ _ s;refine wpAny_noted ?_;rw [compTurn_list];refine aj (jv (aj (cJ (turn n s hI) (fun r s₁ h₁=>?_) fun _ _ h'=>h'.elim)));cases r with
 | none=>exact ap h₁
 | some v =>
   refine aj (cJ h₁ (fun _ s₁' h₁'=>?_) fun _ _ h'=>h'.elim);refine aj (cJ h₁' (fun _ s₂ h₂=>aj (cJ h₂ (fun ok s₃ h₃=>?_) fun _ _ h'=>h'.elim)) fun _ _ h'=>h'.elim);cases ok with
   | true =>
     rw [ag rfl] at h₃;simp only [if_true];exact aj (aj (cJ h₃ (fun x s₄ h₄=>aj (cJ h₄ (fun _ s₅ h₅=>ap (ap ⟨rfl,h₅⟩)) fun _ _ h'=>h'.elim)) fun _ _ h'=>h'.elim))
   | false =>
     rw [aa aV] at h₃;simp only [dU,if_false]
     first
       | exact ap ⟨rfl,h₃⟩
       | exact aj (ap (ap ⟨rfl,h₃⟩))
end
end L2
namespace L2
open PySem PySem.Spec PyProof.Rows
section
variable {X:Cx} {Nc:List Str} {own:Nat} {js:List Nat} {scope:Scope} {cl:List (Str × Addr)}
theorem FX {pins:List (Addr × Obj)} {σ:St} {H₁:Hp} {s₂:Shared} {C:Addr} {fp:List Addr} (T:CompTxt X Nc own js scope cl) (I:Inv X pins σ H₁ s₂) (hC:s₂.heap.objs.size<=C)
   (f1:∀ b∈fp,vy X pins H₁ b) (hlt:∀ b∈fp,b<s₂.heap.objs.size):(X.comp Nc scope cl C s₂ H₁ fp).Ok where
 mod:=I.ok.mod
 kind:=by show (relabel scope X.env).kind=_;exact T.kind
 glob:=I.ok.glob
 blt:=I.ok.blt
 above:=hC
 inj:=fun x y c h1 h2=>I.ok.inj x y c (T.cells x c h1) (T.cells y c h2)
 has:=fun x h=>T.has x h
 cab:=fun x c h=>by cases h
 hd:=I.ok.hd
 frames:=I.ok.frames
 stk:=.inl rfl
 exf:=fun b hb=>⟨aO (aR (hlt b hb) hC),fun x c h=>(f1 b hb).2.2.2.2.1 x c (T.cells x c h)⟩
 bs:=I.bs
 bsz:=bq I.ok.bsz I.sz
 noex:=fun b o e hb=>by
   rcases (f1 b hb).2.2.2.1 with z|z
   . exact I.ok.noex b o e z
   . exact absurd (aR (aG (I.ok.bs b o e).1) z) (dy _)
 exfs:=fun b hb hs=>by
   rcases az.mp (I.stkSub b hs) with z|z
   . exact (f1 b hb).2.1 z
   . exact (f1 b hb).2.2.1 z
 funs:=I.stack
 frf:=I.stkFree
theorem K4 {pins:List (Addr × Obj)} {σ:St} {H₁:Hp} {s₂:Shared} {C D:Addr} {fp:List Addr} {h₁:Heap} {t:Nat} {m:Str->Option Value} (T:CompTxt X Nc own js scope cl) (I:Inv X pins σ H₁ s₂) (hC:s₂.heap.objs.size<=C)
   (hD:s₂.heap.objs.size<=D) (hDC:D≠C) (f1:∀ b∈fp,vy X pins H₁ b) (hlt:∀ b∈fp,b<s₂.heap.objs.size) (old:∀ b o,s₂.heap.get? b=some o->h₁.get? b=some o) (hns:h₁.Ns C m)
   (hacc:∃ n,h₁.get? D=some { cls:=.type "list",data:=.seq ([]:List Value).toArray n }) :
   Inv (X.comp Nc scope cl C s₂ H₁ fp) [] (nI own js σ) (upd H₁ D (.lst [])) { s₂ with heap:=h₁,toks:=t }:=by
 obtain ⟨na,hacc⟩:=hacc;have cellK:∀ c v,s₂.heap.IsCell c v->h₁.IsCell c v:=fun c v ⟨o,ho,hd⟩=>⟨o,old c o ho,hd⟩;refine ⟨FX T I hC f1 hlt,rfl,I.bare,Un.laid old hD (I.hok.fresh hD),⟨m,hns,fun i x v e1 e2 e3=>?_⟩,fun x c e=>?_,?_,fun x c e=>?_,fun p hp=>(by cases hp),I.hok.laid old hD ?_,?_⟩
 . have hN:Nc[i]?=some x:=e1;have hσ:(nI own js σ)[i]?=some (some v):=e2;unfold nI at hσ;by_cases hi:i<own
   . rw [dP (by simpa using hi),g7] at hσ;simp [hi] at hσ
   . obtain ⟨k,rfl⟩:∃ k,i=own+k:=⟨i - own,by omega⟩;rw [dD (by simp)] at hσ;simp only [c7,Nat.add_sub_cancel_left,aP] at hσ;obtain ⟨j,hj,hx,hk,hr⟩:=T.outer k x hN;rw [hj] at hσ;replace hσ:some (σ[j]?.getD none)=some (some v):=hσ;have hσj:σ[j]?=some (some v):=by
       cases q:σ[j]? with
       | none=>rw [q] at hσ;simp at hσ
       | some y=>rw [q] at hσ;simpa using hσ
     obtain ⟨m0,hn0,hl0⟩:=I.loc;obtain ⟨u,ru,lk⟩:=hl0 j x v hx hσj (.inr (.inl hk));refine ⟨u,ru,.inr ⟨.inl hr,?_⟩⟩;rcases lk with ⟨z,_⟩|⟨_,c,hc,hcell⟩
     . have z':X.env.scope.names.lookup x=some .local:=z;rw [hk] at z';cases z'
     . obtain ⟨c',hc'⟩:=T.has x (.inl hr);have:=T.cells x c' hc';rw [hc] at this;cases this;exact ⟨c,hc',cellK c _ hcell⟩
 . obtain ⟨v,z⟩:=I.cell x c (T.cells x c e);exact ⟨v,cellK c v z⟩
 . show upd H₁ D (.lst []) C=none;rw [aX (Ne.symm hDC)];exact I.hok.fresh hC
 . have e':=T.cells x c e;obtain ⟨v,o,ho,_⟩:=I.cell x c e';rw [aX (aO (aR (aG ho) hD))];exact I.freeC x c e'
 . exact ⟨bo _,[],na,.nil,hacc⟩
 . show (nI own js σ).length=Nc.length;rw [T.len];simp [nI]
theorem Gu {pins:List (Addr × Obj)} {σ σc:St} {H₁ H':Hp} {s₂ s':Shared} {C:Addr} {fp:List Addr} {h':Heap} (I:Inv X pins σ H₁ s₂) (hC:s₂.heap.objs.size<=C)
   (f1:∀ b∈fp,vy X pins H₁ b) (I':Inv (X.comp Nc scope cl C s₂ H₁ fp) [] σc H' s') (hs:Heap.SameBut C s'.heap h'):Inv X pins σ H' { s' with heap:=h' }:=by
 have u:Un (frs X.stack) fp H₁ H' s₂.heap s'.heap:=I'.base;have ne:∀ b o,s₂.heap.get? b=some o->b≠C:=fun b o e=>aO (aR (aG e) hC);have k:∀ b o,b≠C->s'.heap.get? b=some o->h'.get? b=some o:=fun b o n e=>hs.extBut b o n e;have u':Un (frs X.stack) fp H₁ H' s₂.heap h':=⟨fun b o e n hb hx=>k b o (ne b o e) (u.keep b o e n hb hx),fun b o e n hb hx=>let ⟨sl,q⟩:=u.slot b o e n hb hx;⟨sl,k b _ (ne b o e) q⟩,
   u.free,fun b o e hx=>let ⟨o',q⟩:=u.there b o e hx;⟨o',k b o' (ne b o e) q⟩,u.tups,u.frzs,u.tbls⟩
 have hfree:H' C=none:=I'.free;have hok':HOk X.prog X.w H' h':=fun a o e=>(I'.hok a o e).stay (fun b v hb q=>k b v (fun z=>by
   rcases hb with y|y
   . rw [y] at z;rw [z,hfree] at e;cases e
   . rw [z,hfree] at y;cases y) q) (fun _ q=>q) fun _ _ q=>q
 exact I.call' (s':={ s' with heap:=h' }) (ch:=fp) I'.os u' hok' I'.bare fun b hb=>⟨(f1 b hb).2.2.2.1,(f1 b hb).2.1,(f1 b hb).2.2.2.2.1,(f1 b hb).2.2.2.2.2⟩
theorem pO {elt target iter:Expr} {ifs:List Expr} {pos:Pos} {wi:TI} {g:TG} {tc:TT} {te:TE} (hc:X.calm=true) (T:CompTxt X Nc own js scope cl)
   (hi:PI X target iter wi) (hg:∀ C s₂ H₁ fp,PG (X.comp Nc scope cl C s₂ H₁ fp) target g) (ht:∀ C s₂ H₁ fp,PTs (X.comp Nc scope cl C s₂ H₁ fp) ifs tc)
   (he:∀ C s₂ H₁ fp,PE (X.comp Nc scope cl C s₂ H₁ fp) elt te) (hs:∀ x,foldedSetIterable iter X.env x=pure x:=by intro _;rfl) :
   PE X (.ListComp elt [⟨target,iter,ifs,0⟩] scope pos) (O4 own js wi g tc te):=by
 intro pins s σ H Q I h;rw [eval_ListComp];refine wpAny_comprehension_free (use:=none) rfl hs T.clos T.kind T.names (thn (hi pins s σ H _ I h) fun v s1 h1=>thn h1 fun itv s2 h2=>?_);obtain ⟨it,fp,tn,J,H1,rfl,I1,Tn,st,f1,R⟩:=h2;have hfp:∀ b∈fp,b<s2.heap.objs.size:=fun b hb=>let ⟨o,e,_⟩:=Tn.obj _ _ st b hb;aG e;refine gW (wpAny_newFunctionEnv T.nocell (by intro y hy;simp at hy) (fun h₁ hns₁ hsb₁=>?_) T.kind);dsimp only at hns₁ hsb₁ ⊢;generalize hH2:s2.heap.push { cls:=.type "list",dict:=none,data:=.seq ([]:List Value).toArray }=H2 at hns₁ hsb₁ ⊢;have hC:H2.objs.size=s2.heap.objs.size+1:=by rw [<- hH2,jA]
 have hDC:s2.heap.objs.size≠H2.objs.size:=by rw [hC];exact aO (eJ _)
 have hCle:s2.heap.objs.size<=H2.objs.size:=by rw [hC];exact iP _
 have below:∀ b,b<s2.heap.objs.size->b≠H2.objs.size:=fun b hb=>by rw [hC];exact aO (jQ hb)
 have old:∀ b o,s2.heap.get? b=some o->h₁.get? b=some o:=fun b o e=>hsb₁.extBut b o (below b (aG e)) (aJ _ (hH2 ▸ aJ _ e));have hacc:∃ n,h₁.get? s2.heap.objs.size=some { cls:=.type "list",data:=.seq ([]:List Value).toArray n }:=⟨_,hsb₁.extBut _ _ hDC (aJ _ (hH2 ▸ bg _ rfl))⟩;have st₁:tn 0 h₁:=Tn.keep _ _ _ st fun b _ o e=>old b o e;obtain ⟨W,⟨m0,w0⟩,turn⟩:=R s2.heap.objs.size I1.fresh;have Ic:=K4 (t:=s2.toks+([]:List (Str × Value)).length) T I1 hCle (aI _) hDC f1 hfp old hns₁ hacc;generalize hXc:X.comp Nc scope cl H2.objs.size s2 H1 fp=Xc at Ic;have stat:∀ {H':Hp},(∀ b∈fp,H' b=none)->∀ b∈fp,vy Xc [] H' b:=fun {H'} hn b hb=>by
   subst hXc;exact ⟨hn b hb,below b (hfp b hb),(FX T I1 hCle f1 hfp).exfs b hb,.inl hb,fun x c e=>(f1 b hb).2.2.2.2.1 x c (T.cells x c e),fun p hp=>by cases hp⟩
 have fr0:∀ b∈fp,upd H1 s2.heap.objs.size (.lst []) b=none:=fun b hb=>by
   rw [aX (aO (hfp b hb))];exact (f1 b hb).1
 have calmc:Xc.calm=true:=by subst hXc;exact hc
 have loop:∀ s₃:Shared,s₃={ s2 with heap:=h₁,toks:=s2.toks+([]:List (Str × Value)).length } ->
     codeAny (model X.prog X.w) X.A (.compLoop (.ListComp elt [⟨target,iter,ifs,0⟩] scope pos) 0 (.ref it) (.ref s2.heap.objs.size) (compEnvC scope cl H2.objs.size X.env))
       (compPost (model X.prog X.w) X.A X.xe none (EP X pins σ Q) (.ref s2.heap.objs.size) H2.objs.size) s₃:=by
   rintro s₃ rfl;refine Dp (fun n s'=>∃ i ys σ' H',Inv Xc [] σ' H' s'/\tn i s'.heap/\(∀ b∈fp,H' b=none)/\W i n ys σ' H') ?_ m0 ⟨0,[],_,_,Ic,st₁,fr0,w0⟩;rintro n s3 ⟨i,ys,σ3,H3,I3,st3,fr3,w3⟩;rcases turn i n ys σ3 H3 w3 with ⟨stop,q⟩|⟨go,step⟩
   . subst hXc;refine thn (Tn.done (X.comp Nc scope cl H2.objs.size s2 H1 fp) rfl rfl rfl hc i [] s3 σ3 H3 _ I3 (stat fr3) st3 stop) fun r s4 ⟨hr,I4⟩=>?_;subst hr;obtain ⟨m4,hn4,_⟩:=id I4.loc;exact ⟨m4,hn4,fun h' hs'=>⟨.ref s2.heap.objs.size,H3,Gu I1 hCle f1 I4 hs',rfl,q⟩⟩
   . subst hXc;refine thn (Tn.item (X.comp Nc scope cl H2.objs.size s2 H1 fp) rfl rfl rfl hc i [] s3 σ3 H3 _ I3 (stat fr3) st3 go) fun r s4 ⟨u,hr,h4⟩=>?_;subst hr;refine thn h4 fun _ s5 ⟨x,H5,I5,r5,y5,st5,fr5⟩=>?_;have I5':=I5.pinned (stat fr5) (Tn.obj _ _ st5);have back:∀ {σ7:St} {H7:Hp} {s7:Shared},Inv (X.comp Nc scope cl H2.objs.size s2 H1 fp) ([]++yW fp s5.heap) σ7 H7 s7->Inv (X.comp Nc scope cl H2.objs.size s2 H1 fp) [] σ7 H7 s7/\tn (i+1) s7.heap/\∀ b∈fp,H7 b=none:=fun {σ7 H7 s7} I7=>by
       refine ⟨I7.unpinned,Tn.keep _ _ _ st5 fun b hb o e=>(I7.pin (b,o) (aN _ (aN _ (pZ hb e)))).1,fun b hb=>?_⟩;obtain ⟨o,e,d⟩:=Tn.obj _ _ st5 b hb;exact (I7.pin (b,o) (aN _ (aN _ (pZ hb e)))).2.1
     refine thn (hg _ _ _ _ _ s5 σ3 H5 x u _ I5' r5 (step x H5 y5)) fun _ s6 ⟨σ6,H6,I6,q6⟩=>?_;refine Gi (ht _ _ _ _ _ s6 σ6 H6 _ I6 q6) fun ok s7 H7 I7 q7=>?_;cases ok with
     | false =>
       rw [aa aV] at q7 ⊢;obtain ⟨m',hm,w7⟩:=q7;obtain ⟨J1,J2,J3⟩:=back I7;exact ⟨m',hm,i+1,ys,σ6,H7,J1,J2,J3,w7⟩
     | true =>
       rw [ag rfl] at q7 ⊢;refine dB (he _ _ _ _ _ s7 σ6 H7 _ I7 q7) fun y s8 yv H8 I8 r8 ⟨hp8,hl8,m',hm,w8⟩=>?_;refine thn (fX _ s8 σ6 H8 (.ref s2.heap.objs.size) [yv] _ [y] (fun v' H'=>W (i+1) m' (ys++[yv]) σ6 H') I8 rfl (.cons r8 .nil) ⟨_,ys,yv,rfl,rfl,hp8,hl8,w8⟩) fun v9 s9 ⟨_,H9,I9,_,w9⟩=>?_;obtain ⟨J1,J2,J3⟩:=back I9;exact ⟨m',hm,i+1,ys++[yv],σ6,H9,J1,J2,J3,w9⟩
 exact codeAny_compStart_list (loop _ rfl) (Tn.self _ 0 _ _ _ st₁ (loop _ rfl))
end
end L2
namespace L2
open PySem PySem.Spec PyProof.Rows
section
variable {X:Cx}
def rInsert:V->List V->Hp->VK->Prop:=fun x vs H Q=>∃ (l:Addr) (xs:List V) (i:Int) (y:V),x=.ref l/\vs=[.int i,y]/\H l=some (.lst xs)/\0<=i/\i<=xs.length/\xs.length<sizeLine/\Q .non (upd H l (.lst (xs.take i.toNat++y::xs.drop i.toNat)))
theorem Qt:MtM X "list.insert" rInsert:=by
 intro pins s σ H x vs v us Q I rx rv h;obtain ⟨l,xs,i,y,rfl,rfl,hH,h0,hk,hz,q⟩:=h;cases rx;obtain ⟨u1,u2,rfl,⟨t,rfl⟩,ru⟩:=rv.two;obtain ⟨z,its,n,r,hl,e⟩:=I.lstM hH;have hn:=vK;have hf:Builtin.List.listFitsIndex i=true:=by
   unfold Builtin.List.listFitsIndex;rw [bn];exact ⟨aW (by omega),aW (by omega)⟩
 have hf':¬ (!Builtin.List.listFitsIndex i)=true:=by rw [hf];decide
 have hzz:its.toArray.size<=sizeLine:=by rw [aD,<- hl];exact z
 refine call_meets kC ⟨_,e,rfl⟩ PySem.F.entry_list_insert (PySem.F.args_list_insert_3 _ _ _) (PySem.AutoSeq1.list_insert_list_int_val_1 l its.toArray n i t u2 hf' hzz) ⟨e,?_⟩;refine ⟨.non,_,I.lset (its':=its.take i.toNat++u2::its.drop i.toNat) hH e ?_ ((r.take i.toNat).append (.cons ru (r.drop i.toNat))) ?_,rfl,q⟩
 . show (its.toArray.extract 0 (if i<0 then (i+(its.toArray.size:Int)).toNat else min i.toNat its.toArray.size)).push u2++its.toArray.extract (if i<0 then (i+(its.toArray.size:Int)).toNat else min i.toNat its.toArray.size)=_;have e0:(if i<0 then (i+(its.toArray.size:Int)).toNat else min i.toNat its.toArray.size)=i.toNat:=by
     rw [aa (by omega),aD];omega
   rw [e0];exact PySem.W.kl_ins_eq its i.toNat u2
 . rw [aH,aL,bu,List.length_drop];omega
def U0 (K:PySem.W.Frag):List V->Hp->VK->Prop:=fun xs H Q=>∃ x c t b,xs=[x,c]/\TyOf K H x t/\(∀ cv,RelV c cv->PySem.W.kitOne K t cv=some b)/\Q (.bl b) H
theorem nR:qb X (.builtin "isinstance") (U0 X.K):=by
 intro pins s σ H xs us Q I r h;obtain ⟨x,c,t,b,rfl,ty,hk,q⟩:=h;obtain ⟨u,cv,rfl,ru,rc⟩:=NM r;exact Qh I ru ty (hk cv rc) fun tk=>⟨.bl b,H,I.tok tk,rfl,q⟩
theorem y7 (hc:X.calm=true):qb X (.builtin "all") (fun xs H Q=>∃ (p:Addr) (bs:List Bool),xs=[.ref p]/\SqL X.K H p (bs.map V.bl)/\Q (.bl (bs.all id)) H):=by
 intro pins s σ H xs us Q I r h;obtain ⟨p,bs,rfl,hp,q⟩:=h;obtain ⟨u,rfl,ru⟩:=wK r;cases ru;obtain ⟨its,rv,pl,hz⟩:=I.list hp;have hl:=pl.isList;have hlt:=pl.lt;have hh:X.A.in1.handled=none:=I.ok.hd hc;have hlen:its.length=bs.length:=by rw [<- rv.length,ai]
 refine call_all_walk (jV hl ?_);refine ⟨s.heap.objs.size,[s.heap.objs.size,p],[s.heap.objs.size],its.toArray.size,_,_,fun i=>(bs[i]?).getD true,rfl,Walks.list (A:=X.A.in1) hh _ p (aO hlt) its.toArray,
   ⟨⟨_,bg _ rfl,rfl,rfl⟩,hl.push _⟩,fun i v s' Q' E' hP hQ=>?_,fun h' tk hk=>?_⟩
 . have hi:its[i]?=some v:=by simpa using hP
   have hib:i<bs.length:=by rw [<- hlen];exact (aq.mp hi).1
   obtain ⟨u,hu,ru⟩:=rv.get (i:=i) (x:=V.bl bs[i]) (by rw [aP,ax hib];rfl);rw [hi] at hu;cases hu;cases ru;replace hQ:Q' (bs[i]?.getD true) s':=hQ;rw [ax hib] at hQ;exact b8 hQ
 . have e:((List.range its.toArray.size).all fun i=>(bs[i]?).getD true)=bs.all id:=by
     rw [aD,hlen];rw [eR,dz,dz]
     constructor
     . intro z b hb;obtain ⟨i,hi,rfl⟩:=gL hb;have:=z i (bD.mpr hi);rw [ax hi] at this;exact this
     . intro z i hi;have hi':=bD.mp hi;rw [ax hi'];exact z _ (eZ hi')
   have kk:∀ b o,s.heap.get? b=some o->h'.get? b=some o:=fun b o eb=>hk b o (fun hm=>by rw [aB.mp hm] at eb;exact dy _ (aG eb)) (aJ _ eb);rw [e];exact ⟨.bl _,H,I.kept (t':=tk) kk,rfl,q⟩
end
mutual
inductive Deep (K:PySem.W.Frag) (H:Hp):V->PyData->Prop
 | non:Deep K H .non .none
 | bl (b:Bool):Deep K H (.bl b) (.bool b)
 | int (i:Int):Deep K H (.int i) (.int i)
 | str {x:Str}:PyData.canLay0 (.str x)=true->Deep K H (.str x) (.str x)
 | lst {a:Addr} {xs:List V} {ds:List PyData}:SqL K H a xs->DeepAll K H xs ds->Deep K H (.ref a) (.list ds)
 | tup {a:Addr} {xs:List V} {ds:List PyData}:SqT K H a xs->DeepAll K H xs ds->Deep K H (.ref a) (.tuple ds)
inductive DeepAll (K:PySem.W.Frag) (H:Hp):List V->List PyData->Prop
 | nil:DeepAll K H [] []
 | cons {x:V} {d:PyData} {xs:List V} {ds:List PyData}:Deep K H x d->DeepAll K H xs ds->DeepAll K H (x::xs) (d::ds)
end
mutual
theorem Deep.reads {X:Cx} {pins:List (Addr × Obj)} {σ:St} {H:Hp} {s:Shared} (I:Inv X pins σ H s):∀ {x:V} {d:PyData} {u:Value},Deep X.K H x d->RelV x u->(∃ as,Reads s.heap u d as)/\d.canLay0=true
 | _,_,_,.non,r=>by cases (show _=Value.none from r);exact ⟨⟨_,.none⟩,by simp [PyData.canLay0]⟩
 | _,_,_,.bl b,r=>by cases (show _=Value.bool b from r);exact ⟨⟨_,.bool b⟩,by simp [PyData.canLay0]⟩
 | _,_,_,.int i,r=>by obtain ⟨t,e⟩:=(show ∃ t,_=Value.int i t from r);cases e;exact ⟨⟨_,.int i t⟩,by simp [PyData.canLay0]⟩
 | _,_,_,.str (x:=x) h,r=>by obtain ⟨t,e⟩:=(show ∃ t,_=Value.str x t from r);cases e;exact ⟨⟨_,.str x t⟩,h⟩
 | _,_,_,.lst (a:=a) h hs,r=>by
   cases (show _=Value.ref a from r);obtain ⟨its,rv,⟨o,n,e,c,_,dd⟩,hz⟩:=I.list h;obtain ⟨⟨as,ra⟩,cl⟩:=DeepAll.reads I hs rv;exact ⟨⟨_,.list e c dd (by simpa using ra)⟩,by simpa [PyData.canLay0] using cl⟩
 | _,_,_,.tup (a:=a) h hs,r=>by
   cases (show _=Value.ref a from r);obtain ⟨its,rv,⟨o,e,c,n,dd⟩,hz⟩:=I.tuple h;obtain ⟨⟨as,ra⟩,cl⟩:=DeepAll.reads I hs rv;exact ⟨⟨_,.tuple e c dd (by simpa using ra)⟩,by simpa [PyData.canLay0] using cl⟩
theorem DeepAll.reads {X:Cx} {pins:List (Addr × Obj)} {σ:St} {H:Hp} {s:Shared} (I:Inv X pins σ H s):∀ {xs:List V} {ds:List PyData} {us:List Value},DeepAll X.K H xs ds->Vals xs us->(∃ as,ReadsAll s.heap us ds as)/\PyData.canLayAll0 ds=true
 | _,_,_,.nil,.nil=>⟨⟨_,.nil⟩,by simp [PyData.canLayAll0]⟩
 | _,_,_,.cons h hs,.cons r rs=>by
   obtain ⟨⟨as,ra⟩,c1⟩:=Deep.reads I h r;obtain ⟨⟨bs,rb⟩,c2⟩:=DeepAll.reads I hs rs;exact ⟨⟨_,.cons ra rb⟩,by simp [PyData.canLayAll0,c1,c2]⟩
end
section
variable {X:Cx}
def Rh (K:PySem.W.Frag):R2:=fun x y H Q=>∃ d e,Deep K H x d/\Deep K H y e/\d.depth<=40/\Q (.bl (PyData.eqv d e)) H
theorem A9 (hu:X.A.units+64<cLine):OpR X (compareOp .Eq) (Rh X.K):=by
 intro pins s σ H x y v u Q I rx ry h;obtain ⟨d,e,hd,he,hp,q⟩:=h;obtain ⟨⟨as,ra⟩,ca⟩:=hd.reads I rx;obtain ⟨⟨bs,rb⟩,cb⟩:=he.reads I ry;exact PySem.SeqAt.compareEq_reads ra rb ca cb (by omega) ⟨.bl _,H,I,rfl,q⟩
end
end L2
namespace L2
open PySem PySem.Spec PyProof.Rows
def SqX (K:PySem.W.Frag):Bool->Hp->Addr->List V->Prop
 | true,H,a,xs=>SqL K H a xs
 | false,H,a,xs=>SqT K H a xs
def Itz (K:PySem.W.Frag) (c d:Bool) (a b:Addr):It :=
 ⟨fun i H=>∃ xs ys x y,SqX K c H a xs/\SqX K d H b ys/\xs[i]?=some x/\ys[i]?=some y,
  fun i H v H'=>∃ p x y,H p=none/\v=.ref p/\H'=upd H p (.tup [x,y])/\(∀ xs,SqX K c H a xs->xs[i]?=some x)/\∀ ys,SqX K d H b ys->ys[i]?=some y,
  fun i H=>∃ xs ys,SqX K c H a xs/\SqX K d H b ys/\(xs.length<=i\/ys.length<=i)⟩
end L2
namespace L2
open PySem PySem.Spec PyProof.Rows
section
variable {X:Cx}
def Vc (K:PySem.W.Frag) (c d:Bool) (ta:TA):TI:=fun σ H R=>ta σ H fun vs H1=>∃ a b,vs=[.ref a,.ref b]/\(∃ xs,SqX K c H1 a xs)/\(∃ ys,SqX K d H1 b ys)/\R (Itz K c d a b) H1
end
end L2
namespace Pb
structure Road where
 a:Int
 b:Int
 t:Int
 u:Int
 deriving DecidableEq
def Pi (m:Int) (rs:List Road):Prop:=∀ S:Int->Prop,S 0->(∀ r∈rs,(S r.a↔S r.b))->∀ v,0<=v->v<m->S v
structure RoadOk (m:Int) (r:Road):Prop where
 a0:0<=r.a
 a1:r.a<m
 b0:0<=r.b
 b1:r.b<m
 ne:r.a≠r.b
 t0:2<=r.t
 t1:r.t<=1000000
 u0:2<=r.u
 u1:r.u<=1000000
structure Good (m:Int) (rs:List Road):Prop where
 m1:1<=m
 m24:m<=24
 len:(rs.length:Int)=m - 1
 ok:∀ r∈rs,RoadOk m r
 jn:Pi m rs
theorem nodup_le {α:Type} [DecidableEq α]:∀ {l l':List α},l.Nodup->(∀ x∈l,x∈l')->l.length<=l'.length
 | [],_,_,_=>bo _
 | x::r,l',hn,hs=>by
   obtain ⟨h1,h2⟩:=aE.mp hn;have hx:x∈l':=hs x aw;have:r.length<=(l'.erase x).length:=nodup_le h2 fun y hy=>(mU (fun (e:y=x)=>h1 (by rw [<- e];exact hy))).mpr (hs y (ak _ hy));rw [List.length_erase_of_mem hx] at this;have hp:0<l'.length:=List.length_pos_of_mem hx;rw [aL];omega
def below (n:Nat):List Int:=(List.range n).map fun (k:Nat)=>(k:Int)
theorem iM {n:Nat} {v:Int}:v∈below n↔0<=v/\v<n:=by
 unfold below;rw [aY]
 constructor
 . rintro ⟨k,hk,rfl⟩;have:=bD.mp hk;omega
 . rintro ⟨h0,h1⟩;exact ⟨v.toNat,bD.mpr (by omega),by omega⟩
theorem dq (n:Nat):(below n).length=n:=by simp [below]
theorem nZ (n:Nat):(below n).Nodup:=by
 unfold below;refine List.Pairwise.map _ (fun a b h=>?_) (kI (n:=n));intro e;exact h (by omega)
theorem fZ {m:Int} {l:List Int} (hm:0<=m) (hn:l.Nodup) (h:∀ x∈l,0<=x/\x<m):(l.length:Int)<=m:=by
 have:=nodup_le (l':=below m.toNat) hn fun x hx=>iM.mpr ⟨(h x hx).1,by have:=(h x hx).2;omega⟩;rw [dq] at this;omega
theorem RV {m:Int} {l:List Int} (hm:0<=m) (h:∀ v,0<=v->v<m->v∈l):m<=(l.length:Int):=by
 have:=nodup_le (l:=below m.toNat) (l':=l) (nZ _) fun x hx=>by
   obtain ⟨h0,h1⟩:=iM.mp hx;exact h x h0 (by omega)
 rw [dq] at this;omega
def wL (p:Int) (r:Road):List Int:=(if r.a=p then [r.b] else [])++(if r.b=p then [r.a] else [])
def fz (rs:List Road) (p:Int):List Int:=rs.flatMap (wL p)
theorem wf {rs:List Road} {p e:Int}:e∈fz rs p↔∃ r∈rs,(r.a=p/\r.b=e)\/(r.b=p/\r.a=e):=by
 unfold fz wL;rw [hJ]
 constructor
 . rintro ⟨r,hr,h⟩;refine ⟨r,hr,?_⟩;rcases aQ.mp h with h|h
   . by_cases c:r.a=p
     . rw [ag c] at h;exact .inl ⟨c,(aB.mp h).symm⟩
     . rw [aa c] at h;cases h
   . by_cases c:r.b=p
     . rw [ag c] at h;exact .inr ⟨c,(aB.mp h).symm⟩
     . rw [aa c] at h;cases h
 . rintro ⟨r,hr,h⟩;refine ⟨r,hr,aQ.mpr ?_⟩;rcases h with ⟨h1,h2⟩|⟨h1,h2⟩
   . exact .inl (by rw [ag h1,h2];exact aB.mpr rfl)
   . exact .inr (by rw [ag h1,h2];exact aB.mpr rfl)
theorem IU (rs:List Road) (p:Int):(fz rs p).length<=2*rs.length:=by
 unfold fz
 induction rs with
 | nil=>simp
 | cons r rs ih =>
   rw [dh,aH,aL];have:(wL p r).length<=2:=by
     unfold wL;rw [aH];by_cases c:r.a=p <;> by_cases d:r.b=p <;> simp [c,d]
   omega
theorem w5 (rs:List Road) (r:Road) (p:Int):fz (rs++[r]) p=fz rs p++wL p r:=by
 unfold fz;rw [oX];simp
def FG (c:List Int × List Int) (e:Int):List Int × List Int:=if e∈c.1 then c else (c.1++[e],c.2++[e])
structure JInv (m:Int) (rs:List Road) (ks ws:List Int):Prop where
 nd:ks.Nodup
 zero:0∈ks
 rng:∀ k∈ks,0<=k/\k<m
 sub:∀ w∈ws,w∈ks
 cl:∀ k∈ks,k ∉ ws->∀ e∈fz rs k,e∈ks
 wl:ws.length<=ks.length
theorem Nn {l:List Int} {e:Int} (h:l.Nodup) (he:e ∉ l):(l++[e]).Nodup:=by
 rw [b7];refine ⟨h,by simp,fun a ha b hb=>?_⟩;rw [aB.mp hb];exact fun z=>he (z ▸ ha)
structure JMid (m:Int) (rs:List Road) (p:Int) (es ks ws ks0:List Int) (n0:Nat):Prop where
 nd:ks.Nodup
 zero:0∈ks
 rng:∀ k∈ks,0<=k/\k<m
 sub:∀ w∈ws,w∈ks
 cl:∀ k∈ks,k ∉ ws->k=p\/∀ e∈fz rs k,e∈ks
 seen:∀ e∈es,e∈ks
 pin:p∈ks
 mu:ks.length+n0=ks0.length+ws.length
 up:ks0.length<=ks.length
 wl:ws.length<=ks.length
theorem JMid.start {m:Int} {rs:List Road} {ks ws:List Int} {p:Int} (h:JInv m rs ks (ws++[p])):JMid m rs p [] ks ws ks ws.length where
 nd:=h.nd
 zero:=h.zero
 rng:=h.rng
 sub:=fun w hw=>h.sub w (a9 _ hw)
 cl:=fun k hk hw=>by
   by_cases e:k=p
   . exact .inl e
   . exact .inr (h.cl k hk fun z=>by
       rcases aQ.mp z with z|z
       . exact hw z
       . exact e (aB.mp z))
 seen:=fun e he=>by cases he
 pin:=h.sub p (aN _ (aB.mpr rfl))
 mu:=rfl
 up:=aI _
 wl:=by have:=h.wl;rw [aH] at this;simp at this;omega
theorem JMid.step {m:Int} {rs:List Road} {p:Int} {es ks ws ks0:List Int} {n0:Nat} {e:Int} (h:JMid m rs p es ks ws ks0 n0) (h0:0<=e) (h1:e<m) :
   JMid m rs p (es++[e]) (FG (ks,ws) e).1 (FG (ks,ws) e).2 ks0 n0:=by
 unfold FG;by_cases c:e∈ks
 . rw [ag c];refine ⟨h.nd,h.zero,h.rng,h.sub,h.cl,fun x hx=>?_,h.pin,h.mu,h.up,h.wl⟩;rcases aQ.mp hx with z|z
   . exact h.seen x z
   . rw [aB.mp z];exact c
 . rw [aa c];dsimp only;refine ⟨Nn h.nd c,a9 _ h.zero,fun k hk=>?_,fun w hw=>?_,fun k hk hw=>?_,fun x hx=>?_,a9 _ h.pin,?_,by have:=h.up;simp;omega,by have:=h.wl;simp;exact this⟩
   . rcases aQ.mp hk with z|z
     . exact h.rng k z
     . rw [aB.mp z];exact ⟨h0,h1⟩
   . rcases aQ.mp hw with z|z
     . exact a9 _ (h.sub w z)
     . exact aN _ z
   . rcases aQ.mp hk with z|z
     . rcases h.cl k z fun y=>hw (a9 _ y) with y|y
       . exact .inl y
       . exact .inr fun x hx=>a9 _ (y x hx)
     . exact absurd (aN _ z) hw
   . rcases aQ.mp hx with z|z
     . exact a9 _ (h.seen x z)
     . exact aN _ z
   . have:=h.mu;simp only [aH,aL,fB];omega
theorem JMid.done {m:Int} {rs:List Road} {p:Int} {ks ws ks0:List Int} {n0:Nat} (h:JMid m rs p (fz rs p) ks ws ks0 n0):JInv m rs ks ws where
 nd:=h.nd
 zero:=h.zero
 rng:=h.rng
 sub:=h.sub
 cl:=fun k hk hw=>by
   rcases h.cl k hk hw with z|z
   . rw [z];exact h.seen
   . exact z
 wl:=h.wl
theorem JInv.start {m:Int} {rs:List Road} (hm:1<=m):JInv m rs [0] [0] where
 nd:=by simp
 zero:=by simp
 rng:=fun k hk=>by rw [aB.mp hk];omega
 sub:=fun w hw=>hw
 cl:=fun k hk hw=>absurd hk hw
 wl:=by simp
theorem JInv.all {m:Int} {rs:List Road} {ks:List Int} (h:JInv m rs ks []) (hm:1<=m) (j:Pi m rs):(ks.length:Int)=m:=by
 have up:=fZ (by omega) h.nd h.rng;have:∀ v,0<=v->v<m->v∈ks:=j (fun v=>v∈ks) h.zero fun r hr=>by
   constructor
   . intro ha;exact h.cl r.a ha (by simp) r.b (wf.mpr ⟨r,hr,.inl ⟨rfl,rfl⟩⟩)
   . intro hb;exact h.cl r.b hb (by simp) r.a (wf.mpr ⟨r,hr,.inr ⟨rfl,rfl⟩⟩)
 have:=RV (by omega) this;omega
theorem R1 {m:Int} {rs:List Road} (h:∀ r∈rs,RoadOk m r) {p e:Int} (he:e∈fz rs p):0<=e/\e<m:=by
 obtain ⟨r,hr,z⟩:=wf.mp he;have k:=h r hr;rcases z with ⟨_,rfl⟩|⟨_,rfl⟩
 . exact ⟨k.b0,k.b1⟩
 . exact ⟨k.a0,k.a1⟩
structure Row where
 k:Int
 un:Int
 t:Int
 u:Int
 sw:Int
 sp:Int
structure RowOk (r:Row):Prop where
 u0:0<=r.un
 u1:r.un<r.k
 t0:2<=r.t
 t1:r.t<=1000000
 v0:2<=r.u
 v1:r.u<=1000000
 s0:0<=r.sp
 s1:r.sp<r.k
structure Rows (n:Nat) (rows:List Row):Prop where
 len:rows.length=n
 ok:∀ (i:Nat) (r:Row),rows[i]?=some r->r.k=(i:Int)+1/\RowOk r
structure Labels (n:Nat) (ls:List Int):Prop where
 len:ls.length=n
 nd:ls.Nodup
 all:∀ v:Int,0<=v->v<n->v∈ls
 rng:∀ v∈ls,0<=v/\v<n
theorem Fs {α:Type} {l:List α} {k:Nat} {x y:α}:y∈l.take k++x::l.drop k↔y=x\/y∈l:=by
 rw [aQ,az]
 constructor
 . rintro (h|h|h)
   . exact .inr (List.mem_of_mem_take h)
   . exact .inl h
   . exact .inr (mM h)
 . rintro (h|h)
   . exact .inr (.inl h)
   . rw [<- fQ k l] at h;rcases aQ.mp h with z|z
     . exact .inl z
     . exact .inr (.inr z)
def mI (ls:List Int) (r:Row):Road:=if r.sw=1 then ⟨ls.getD r.un.toNat 0,ls.getD r.k.toNat 0,r.t,r.u⟩ else ⟨ls.getD r.k.toNat 0,ls.getD r.un.toNat 0,r.t,r.u⟩
structure Put (ls:List Int) (rows:List Row) (rs:List Road):Prop where
 len:rs.length=rows.length
 of:∀ r∈rs,∃ w∈rows,r=mI ls w
 to:∀ w∈rows,mI ls w∈rs
theorem Put.nil (ls:List Int):Put ls [] []:=⟨rfl,fun r h=>(by cases h),fun r h=>(by cases h)⟩
theorem Put.step {ls:List Int} {rows:List Row} {rs:List Road} (h:Put ls rows rs) (w:Row) (k:Nat):Put ls (rows++[w]) (rs.take k++mI ls w::rs.drop k) where
 len:=by
   rw [aH,aL,bu,List.length_drop,aH,h.len];simp;omega
 of:=fun r hr=>by
   rcases Fs.mp hr with z|z
   . exact ⟨w,by simp,z⟩
   . obtain ⟨w',hw,e⟩:=h.of r z;exact ⟨w',a9 _ hw,e⟩
 to:=fun w' hw=>by
   rw [Fs];rcases aQ.mp hw with z|z
   . exact .inr (h.to w' z)
   . exact .inl (by rw [aB.mp z])
theorem Cy {ls:List Int} {n:Nat} (h:Labels n ls) {i:Nat} (hi:i<n):ls[i]?=some (ls.getD i 0):=by
 have:i<ls.length:=by rw [h.len];exact hi
 simp [List.getD,ax this]
theorem IG {ls:List Int} {n:Nat} (h:Labels n ls) {i:Nat} (hi:i<n):ls.getD i 0∈ls:=a8 (Cy h hi)
theorem Ts {ls:List Int} {n:Nat} (h:Labels n ls) {i j:Nat} (hi:i<n) (hj:j<n) (e:ls.getD i 0=ls.getD j 0):i=j:=by
 have h1:i<ls.length:=by rw [h.len];exact hi
 have h2:j<ls.length:=by rw [h.len];exact hj
 have e1:=Cy h hi;have e2:=Cy h hj;rw [e] at e1;have e3:ls[i]'h1=ls[j]'h2:=by
   rw [ax h1] at e1;rw [ax h2] at e2;exact bi (e1.trans e2.symm)
 have nd:=gr.mp h.nd;rcases Nat.lt_trichotomy i j with z|z|z
 . exact absurd e3 (nd i j h1 h2 z)
 . exact z
 . exact absurd e3.symm (nd j i h2 h1 z)
theorem UT {n:Nat} {ls:List Int} {rows:List Row} {rs:List Road} (h1:1<=n) (h24:n<=24) (L:Labels n ls) (W:Rows (n - 1) rows) (P:Put ls rows rs):Good n rs where
 m1:=by omega
 m24:=by omega
 len:=by rw [P.len,W.len];omega
 ok:=fun r hr=>by
   obtain ⟨w,hw,rfl⟩:=P.of r hr;obtain ⟨i,hi⟩:=cg hw;obtain ⟨ek,ok⟩:=W.ok i w hi;have hil:i<rows.length:=(aq.mp hi).1;rw [W.len] at hil;have hk:w.k.toNat<n:=by omega
   have hu:w.un.toNat<n:=by have:=ok.u0;have:=ok.u1;omega
   have r1:=L.rng _ (IG L hk);have r2:=L.rng _ (IG L hu);have ne:ls.getD w.k.toNat 0≠ls.getD w.un.toNat 0:=fun e=>by
     have:=Ts L hk hu e;have:=ok.u0;have:=ok.u1;omega
   unfold mI;by_cases c:w.sw=1
   . rw [ag c];exact ⟨r2.1,r2.2,r1.1,r1.2,ne.symm,ok.t0,ok.t1,ok.v0,ok.v1⟩
   . rw [aa c];exact ⟨r1.1,r1.2,r2.1,r2.2,ne,ok.t0,ok.t1,ok.v0,ok.v1⟩
 jn:=by
   intro S s0 hS;have key:∀ i:Nat,i<n->(S (ls.getD i 0)↔S (ls.getD 0 0)):=by
     intro i
     induction i using Nat.strongRecOn with
     | ind i ih =>
       intro hi;by_cases z:i=0
       . rw [z]
       . have hil:i - 1<rows.length:=(by rw [W.len];omega);obtain ⟨ek,ok⟩:=W.ok (i - 1) rows[i - 1] (ax hil);have hm:=P.to rows[i - 1] (eZ hil);have hr:=hS _ hm;have hk:(rows[i - 1]).k.toNat=i:=(by omega);have hu:(rows[i - 1]).un.toNat<i:=(by have:=ok.u0;have:=ok.u1;omega);have hh:=ih _ hu (by omega);unfold mI at hr;rw [hk] at hr;by_cases c:(rows[i - 1]).sw=1
         . rw [ag c] at hr;exact hr.symm.trans hh
         . rw [aa c] at hr;exact hr.trans hh
   have at_:∀ v,0<=v->v<(n:Int)->∃ i,i<n/\ls.getD i 0=v:=fun v h0 h1=>by
     obtain ⟨i,hi⟩:=cg (L.all v h0 h1);have hil:i<n:=(by have:=(aq.mp hi).1;rw [L.len] at this;exact this);refine ⟨i,hil,?_⟩;have:=Cy L hil;rw [hi] at this;exact (bi this).symm
   intro v h0 hv;obtain ⟨i,hi,rfl⟩:=at_ v h0 hv;obtain ⟨j,hj,ej⟩:=at_ 0 (by omega) (by omega);refine (key i hi).mpr ((key j hj).mp ?_);rw [ej];exact s0
end Pb
namespace Pb
def Adj (rs:List Road) (a b:Int):Prop:=∃ x∈rs,(x.a=a/\x.b=b)\/(x.b=a/\x.a=b)
theorem Adj.symm {rs:List Road} {a b:Int} (h:Adj rs a b):Adj rs b a:=by
 obtain ⟨x,hx,h⟩:=h;rcases h with ⟨h1,h2⟩|⟨h1,h2⟩
 . exact ⟨x,hx,.inr ⟨h2,h1⟩⟩
 . exact ⟨x,hx,.inl ⟨h2,h1⟩⟩
theorem Ed {rs:List Road} {a b:Int}:b∈fz rs a↔Adj rs a b:=wf
theorem Good.adj {m:Int} {rs:List Road} (g:Good m rs) {a b:Int} (h:Adj rs a b):(0<=a/\a<m)/\(0<=b/\b<m)/\a≠b:=by
 obtain ⟨x,hx,h⟩:=h;have k:=g.ok x hx;rcases h with ⟨h1,h2⟩|⟨h1,h2⟩
 . subst h1 h2;exact ⟨⟨k.a0,k.a1⟩,⟨k.b0,k.b1⟩,k.ne⟩
 . subst h1 h2;exact ⟨⟨k.b0,k.b1⟩,⟨k.a0,k.a1⟩,k.ne.symm⟩
theorem Good.from {m:Int} {rs:List Road} (g:Good m rs) {r:Int} (h0:0<=r) (h1:r<m) (S:Int->Prop) (sr:S r) (hS:∀ x∈rs,(S x.a↔S x.b)):∀ v,0<=v->v<m->S v:=by
 have key:∀ v,0<=v->v<m->(S v↔S 0):=g.jn (fun v=>S v↔S 0) Iff.rfl fun x hx=>by
   have:=hS x hx;exact ⟨fun h=>this.symm.trans h,fun h=>this.trans h⟩
 intro v a b;exact (key v a b).mpr ((key r h0 h1).mp sr)
inductive Dist (rs:List Road) (r:Int):Nat->Int->Prop
 | zero:Dist rs r 0 r
 | step {n:Nat} {u v:Int}:Dist rs r n u->Adj rs u v->Dist rs r (n+1) v
theorem Wq {P:Nat->Prop}:∀ n,P n->∃ k,P k/\∀ j,j<k->¬ P j:=by
 intro n
 induction n using Nat.strongRecOn with
 | ind n ih =>
   intro h;by_cases z:∃ j,j<n/\P j
   . obtain ⟨j,hj,hp⟩:=z;exact ih j hj hp
   . exact ⟨n,h,fun j hj hp=>z ⟨j,hj,hp⟩⟩
structure Rooted (m:Int) (rs:List Road) (r:Int) (par:Int->Int) (dep:Int->Nat):Prop where
 root:dep r=0
 up:∀ v,0<=v->v<m->v≠r->(0<=par v/\par v<m)/\Adj rs v (par v)/\dep (par v)+1=dep v
 road:∀ x∈rs,(x.a≠r/\par x.a=x.b)\/(x.b≠r/\par x.b=x.a)
 one:(rs.map fun x=>if x.a≠r/\par x.a=x.b then x.a else x.b).Nodup
theorem Ui {n:Nat} {l:List Nat} (hn:l.Nodup) (hl:l.length=n) (hb:∀ x∈l,x<n):∀ i,i<n->i∈l:=by
 intro i hi;by_cases z:i∈l
 . exact z
 . have:=nodup_le (l:=i::l) (l':=List.range n) (aE.mpr ⟨z,hn⟩) fun x hx=>by
     rcases az.mp hx with rfl|hx
     . exact bD.mpr hi
     . exact bD.mpr (hb x hx)
   rw [aL,fT] at this;omega
theorem BQ {m:Int} {rs:List Road} (g:Good m rs) {r:Int} (h0:0<=r) (h1:r<m):∃ par dep,Rooted m rs r par dep:=by
 classical
 have HT:∀ v,0<=v->v<m->∃ n,Dist rs r n v:=g.from h0 h1 (fun v=>∃ n,Dist rs r n v) ⟨0,.zero⟩ fun x hx=>by
   constructor
   . rintro ⟨n,d⟩;exact ⟨n+1,d.step ⟨x,hx,.inl ⟨rfl,rfl⟩⟩⟩
   . rintro ⟨n,d⟩;exact ⟨n+1,d.step ⟨x,hx,.inr ⟨rfl,rfl⟩⟩⟩
 have hd:∀ v,∃ k,(0<=v/\v<m)->Dist rs r k v/\∀ j,j<k->¬ Dist rs r j v:=fun v=>by
   by_cases z:0<=v/\v<m
   . obtain ⟨n,d⟩:=HT v z.1 z.2;obtain ⟨k,h⟩:=Wq (P:=fun k=>Dist rs r k v) n d;exact ⟨k,fun _=>h⟩
   . exact ⟨0,fun h=>absurd h z⟩
 let dep:Int->Nat:=fun v=>(hd v).choose
 have dspec:∀ v,0<=v->v<m->Dist rs r (dep v) v/\∀ j,j<dep v->¬ Dist rs r j v:=fun v a b=>(hd v).choose_spec ⟨a,b⟩;have dr:dep r=0:=by
   have:=(dspec r h0 h1).2 0;by_cases z:dep r=0
   . exact z
   . exact absurd Dist.zero (this (by omega))
 have hp:∀ v,∃ u,(0<=v/\v<m/\v≠r)->Adj rs v u/\dep u+1=dep v:=fun v=>by
   by_cases z:0<=v/\v<m/\v≠r
   . obtain ⟨a,b,c⟩:=z;obtain ⟨d,dm⟩:=dspec v a b;generalize hk:dep v=k at d dm;cases d with
     | zero=>exact absurd rfl c
     | @step n u _ d e =>
       refine ⟨u,fun _=>⟨e.symm,?_⟩⟩;obtain ⟨⟨u0,u1⟩,_⟩:=g.adj e;have l1:dep u<=n:=by
         by_cases w:dep u<=n
         . exact w
         . exact absurd d ((dspec u u0 u1).2 n (by omega))
       have l2:¬ dep u<n:=fun w=>dm (dep u+1) (by omega) ((dspec u u0 u1).1.step e);omega
   . exact ⟨0,fun h=>absurd h z⟩
 let par:Int->Int:=fun v=>(hp v).choose
 have pspec:∀ v,0<=v->v<m->v≠r->Adj rs v (par v)/\dep (par v)+1=dep v:=fun v a b c=>(hp v).choose_spec ⟨a,b,c⟩;have hi:∀ v,∃ i:Nat,(0<=v/\v<m/\v≠r)->∃ x,rs[i]?=some x/\((x.a=v/\x.b=par v)\/(x.b=v/\x.a=par v)):=fun v=>by
   by_cases z:0<=v/\v<m/\v≠r
   . obtain ⟨x,hx,h⟩:=(pspec v z.1 z.2.1 z.2.2).1;obtain ⟨i,e⟩:=cg hx;exact ⟨i,fun _=>⟨x,e,h⟩⟩
   . exact ⟨0,fun h=>absurd h z⟩
 let ix:Int->Nat:=fun v=>(hi v).choose
 have ispec:∀ v,0<=v->v<m->v≠r->∃ x,rs[ix v]?=some x/\((x.a=v/\x.b=par v)\/(x.b=v/\x.a=par v)):=fun v a b c=>(hi v).choose_spec ⟨a,b,c⟩;have inj:∀ v u,0<=v->v<m->v≠r->0<=u->u<m->u≠r->ix v=ix u->v=u:=by
   intro v u a b c a' b' c' e;obtain ⟨x,hx,h⟩:=ispec v a b c;obtain ⟨y,hy,h'⟩:=ispec u a' b' c';rw [e,hy] at hx;cases hx;have d1:=(pspec v a b c).2;have d2:=(pspec u a' b' c').2;rcases h with ⟨p,q⟩|⟨p,q⟩ <;> rcases h' with ⟨p',q'⟩|⟨p',q'⟩
   . exact p.symm.trans p'
   . exfalso
     have e1:v=par u:=p.symm.trans q';have e2:u=par v:=p'.symm.trans q;rw [<- e1] at d2;rw [<- e2] at d1;omega
   . exfalso
     have e1:v=par u:=p.symm.trans q';have e2:u=par v:=p'.symm.trans q;rw [<- e1] at d2;rw [<- e2] at d1;omega
   . exact p.symm.trans p'
 let vs:List Int:=(below m.toNat).filter fun v=>decide (v≠r)
 have mv:∀ v,v∈vs↔(0<=v/\v<m/\v≠r):=fun v=>by
   rw [bG,iM,aU]
   constructor
   . rintro ⟨⟨a,b⟩,c⟩;exact ⟨a,by omega,c⟩
   . rintro ⟨a,b,c⟩;exact ⟨⟨a,by omega⟩,c⟩
 have nv:vs.Nodup:=(nZ _).filter _;have lv:vs.length=rs.length:=by
   have e1:(r::vs).length<=(below m.toNat).length:=nodup_le (aE.mpr ⟨fun h=>((mv r).mp h).2.2 rfl,nv⟩) fun x hx=>by
     rcases az.mp hx with rfl|hx
     . exact iM.mpr ⟨h0,by omega⟩
     . have:=(mv x).mp hx;exact iM.mpr ⟨this.1,by omega⟩
   have e2:(below m.toNat).length<=(r::vs).length:=nodup_le (nZ _) fun x hx=>by
     have:=iM.mp hx;by_cases z:x=r
     . rw [z];exact aw
     . exact ak _ ((mv x).mpr ⟨this.1,by omega,z⟩)
   rw [dq,aL] at e1 e2;have:=g.len;have:=g.m1;omega
 have il:(vs.map ix).Nodup:=by
   have:∀ (l:List Int),l.Nodup->(∀ v∈l,0<=v/\v<m/\v≠r)->(l.map ix).Nodup:=by
     intro l
     induction l with
     | nil=>intro _ _;simp
     | cons v l ih =>
       intro hn hm;obtain ⟨n1,n2⟩:=aE.mp hn;rw [aK];refine aE.mpr ⟨fun z=>?_,ih n2 fun u hu=>hm u (ak _ hu)⟩;obtain ⟨u,hu,e⟩:=aY.mp z;obtain ⟨a,b,c⟩:=hm v aw;obtain ⟨a',b',c'⟩:=hm u (ak _ hu);exact n1 (inj u v a' b' c' a b c e ▸ hu)
   exact this vs nv fun v hv=>(mv v).mp hv
 have ib:∀ i∈vs.map ix,i<rs.length:=fun i hi'=>by
   obtain ⟨v,hv,rfl⟩:=aY.mp hi';obtain ⟨a,b,c⟩:=(mv v).mp hv;obtain ⟨x,hx,_⟩:=ispec v a b c;exact (aq.mp hx).1
 have all:=Ui il (by rw [ai,lv]) ib;have back:∀ i x,rs[i]?=some x->∃ v,(0<=v/\v<m/\v≠r)/\ix v=i/\((x.a=v/\x.b=par v)\/(x.b=v/\x.a=par v)):=fun i x e=>by
   obtain ⟨v,hv,rfl⟩:=aY.mp (all i (aq.mp e).1);obtain ⟨a,b,c⟩:=(mv v).mp hv;obtain ⟨y,hy,h⟩:=ispec v a b c;rw [e] at hy;cases hy;exact ⟨v,⟨a,b,c⟩,rfl,h⟩
 have noback:∀ v,0<=v->v<m->v≠r->par v≠r->par (par v)≠v:=fun v a b c c' z=>by
   have d1:=pspec v a b c;obtain ⟨_,⟨a',b'⟩,_⟩:=g.adj d1.1;have d2:=pspec (par v) a' b' c';rw [z] at d2;omega
 have kid:∀ i x,rs[i]?=some x->∃ v,(0<=v/\v<m/\v≠r)/\ix v=i/\(if x.a≠r/\par x.a=x.b then x.a else x.b)=v:=fun i x e=>by
   obtain ⟨v,⟨a,b,c⟩,hv,h⟩:=back i x e;refine ⟨v,⟨a,b,c⟩,hv,?_⟩;rcases h with ⟨p,q⟩|⟨p,q⟩
   . rw [ag ⟨by rw [p];exact c,by rw [p];exact q.symm⟩];exact p
   . rw [aa]
     . exact p
     . rintro ⟨z1,z2⟩;rw [q] at z1 z2;exact noback v a b c z1 (z2.trans p)
 refine ⟨par,dep,dr,fun v a b c=>?_,fun x hx=>?_,?_⟩
 . obtain ⟨p,q⟩:=pspec v a b c;obtain ⟨_,w,_⟩:=g.adj p;exact ⟨w,p,q⟩
 . obtain ⟨i,e⟩:=cg hx;obtain ⟨v,⟨a,b,c⟩,_,h⟩:=back i x e;rcases h with ⟨p,q⟩|⟨p,q⟩
   . exact .inl ⟨by rw [p];exact c,by rw [p];exact q.symm⟩
   . exact .inr ⟨by rw [p];exact c,by rw [p];exact q.symm⟩
 . refine gr.mpr fun i j hi' hj' lt=>?_;rw [ai] at hi' hj';rw [iE,iE];intro z;obtain ⟨v,_,e1,k1⟩:=kid i rs[i] (ax hi');obtain ⟨u,_,e2,k2⟩:=kid j rs[j] (ax hj');rw [k1,k2] at z;rw [z] at e1;omega
theorem NK {m:Int} {rs:List Road} (g:Good m rs) {p:Int} (h0:0<=p) (h1:p<m):(fz rs p).Nodup:=by
 obtain ⟨par,dep,R⟩:=BQ g h0 h1;have one:=R.one;have ok:=g.ok;have road:=R.road;clear R g
 induction rs with
 | nil=>simp [fz]
 | cons x l ih =>
   have ox:=ok x aw;have ol:∀ y∈l,RoadOk m y:=fun y hy=>ok y (ak _ hy);rw [aK] at one;obtain ⟨n1,n2⟩:=aE.mp one;have il:=ih n2 ol fun y hy=>road y (ak _ hy);have e:fz (x::l) p=wL p x++fz l p:=by unfold fz;rw [dh]
   rw [e];have kid:∀ y,RoadOk m y->((y.a≠p/\par y.a=y.b)\/(y.b≠p/\par y.b=y.a))->(y.a=p->(if y.a≠p/\par y.a=y.b then y.a else y.b)=y.b)/\(y.b=p->(if y.a≠p/\par y.a=y.b then y.a else y.b)=y.a):=fun y oy hy=>by
     constructor
     . intro z;rw [aa (fun w=>w.1 z)]
     . intro z;rcases hy with hy|hy
       . rw [ag hy]
       . exact absurd z hy.1
   have kx:=kid x ox (road x aw);have inl:∀ e∈fz l p,e∈l.map fun y=>if y.a≠p/\par y.a=y.b then y.a else y.b:=fun e he=>by
     obtain ⟨y,hy,h⟩:=wf.mp he;have ky:=kid y (ol y hy) (road y (ak _ hy));refine aY.mpr ⟨y,hy,?_⟩;rcases h with ⟨p1,q1⟩|⟨p1,q1⟩
     . rw [ky.1 p1];exact q1
     . rw [ky.2 p1];exact q1
   unfold wL;by_cases c:x.a=p
   . have d:¬ x.b=p:=fun z=>ox.ne (c.trans z.symm);rw [ag c,aa d,bC];refine aE.mpr ⟨fun z=>n1 ?_,il⟩;rw [kx.1 c];exact inl _ z
   . rw [aa c,f9];by_cases d:x.b=p
     . rw [ag d];refine aE.mpr ⟨fun z=>n1 ?_,il⟩;rw [kx.2 d];exact inl _ z
     . rw [aa d];exact il
def m9 (m:Int) (rs:List Road) (p:Int):List Int:=(below m.toNat).filter fun q=>decide (q∈fz rs p)
theorem G5:∀ {l l':List Int},l.Perm l'->l.Pairwise (·<=·)->l'.Pairwise (·<=·)->l=l'
 | [],l',p,_,_=>(List.Perm.nil_eq p)
 | a::l,l',p,h,h'=>by
   cases l' with
   | nil=>exact absurd p.symm.nil_eq (by simp)
   | cons b r =>
     obtain ⟨h1,h2⟩:=List.pairwise_cons.mp h;obtain ⟨h1',h2'⟩:=List.pairwise_cons.mp h';have e:a=b:=by
       have ma:a∈b::r:=p.subset aw;have mb:b∈a::l:=p.symm.subset aw;rcases az.mp ma with z|z
       . exact z
       . rcases az.mp mb with w|w
         . exact w.symm
         . have:=h1 b w;have:=h1' a z;omega
     subst e;rw [G5 (List.Perm.cons_inv p) h2 h2']
theorem IX (n:Nat):(below n).Pairwise (·<=·):=by
 unfold below;refine List.Pairwise.map _ (fun a b (h:a<b)=>?_) List.pairwise_lt_range;omega
theorem Ls (m:Int) (rs:List Road) (p:Int):(m9 m rs p).Pairwise (·<=·):=(IX _).filter _
theorem E5 (m:Int) (rs:List Road) (p:Int):(m9 m rs p).Nodup:=(nZ _).filter _
theorem jS {m:Int} {rs:List Road} (g:Good m rs) {p q:Int}:q∈m9 m rs p↔Adj rs p q:=by
 unfold m9;rw [bG,aU,Ed,iM]
 constructor
 . exact fun h=>h.2
 . intro h;obtain ⟨_,⟨a,b⟩,_⟩:=g.adj h;exact ⟨⟨a,by omega⟩,h⟩
theorem qR:∀ {l l':List Int},l.Nodup->l'.Nodup->(∀ x,x∈l↔x∈l')->l.Perm l'
 | [],l',_,_,h=>by
   cases l' with
   | nil=>exact .nil
   | cons b r=>exact absurd ((h b).mpr aw) (by simp)
 | a::l,l',n,n',h=>by
   obtain ⟨n1,n2⟩:=aE.mp n;have ma:a∈l':=(h a).mp aw;refine List.Perm.trans (List.Perm.cons a ?_) (List.perm_cons_erase ma).symm;refine qR n2 (n'.erase a) fun x=>?_
   constructor
   . intro hx;have ne:x≠a:=fun z=>n1 (z ▸ hx);exact (mU ne).mpr ((h x).mp (ak _ hx))
   . intro hx;have:x≠a:=fun z=>by
       subst z;exact (List.Nodup.not_mem_erase n') hx
     rcases az.mp ((h x).mpr (List.mem_of_mem_erase hx)) with z|z
     . exact absurd z this
     . exact z
theorem U2 {m:Int} {rs:List Road} (g:Good m rs) {p:Int} (h0:0<=p) (h1:p<m) {zs:List Int} (hp:zs.Perm (fz rs p)) (hs:zs.Pairwise (·<=·)):zs=m9 m rs p:=by
 refine G5 (hp.trans (qR (NK g h0 h1) (E5 m rs p) fun x=>?_)) hs (Ls m rs p);rw [jS g,Ed]
def g8 (a b:Int) (x:Road):Option Int:=if x.a=a/\x.b=b then some x.t else if x.a=b/\x.b=a then some x.u else none
def bM (rs:List Road) (a b:Int):Option Int:=rs.findSome? (g8 a b)
theorem vO {rs:List Road} {a b:Int}:(bM rs a b).isSome=true↔Adj rs a b:=by
 unfold bM;rw [List.findSome?_isSome_iff]
 constructor
 . rintro ⟨x,hx,h⟩;unfold g8 at h;by_cases c:x.a=a/\x.b=b
   . exact ⟨x,hx,.inl c⟩
   . rw [aa c] at h;by_cases d:x.a=b/\x.b=a
     . exact ⟨x,hx,.inr ⟨d.2,d.1⟩⟩
     . rw [aa d] at h;cases h
 . rintro ⟨x,hx,h⟩;refine ⟨x,hx,?_⟩;unfold g8;rcases h with h|h
   . rw [ag h];rfl
   . by_cases c:x.a=a/\x.b=b
     . rw [ag c];rfl
     . rw [aa c,ag ⟨h.2,h.1⟩];rfl
def sd (x:Road) (a b:Int):Prop:=(x.a=a/\x.b=b)\/(x.b=a/\x.a=b)
theorem GH {m:Int} {rs:List Road} (g:Good m rs) {a b:Int} {i j:Nat} {x y:Road} (hi:rs[i]?=some x) (hj:rs[j]?=some y) (jx:sd x a b) (jy:sd y a b):i=j:=by
 obtain ⟨⟨a0,a1⟩,_,_⟩:=g.adj (show Adj rs a b from ⟨x,a8 hi,jx⟩);obtain ⟨par,dep,R⟩:=BQ g a0 a1;have kid:∀ z∈rs,sd z a b->(if z.a≠a/\par z.a=z.b then z.a else z.b)=b:=fun z hz jz=>by
   rcases jz with ⟨p,q⟩|⟨p,q⟩
   . rw [aa (fun w=>w.1 p)];exact q
   . rcases R.road z hz with w|w
     . rw [ag w];exact q
     . exact absurd p w.1
 have li:=(aq.mp hi);have lj:=(aq.mp hj);obtain ⟨li,ei⟩:=li;obtain ⟨lj,ej⟩:=lj;have nd:=gr.mp R.one;have vi:(rs.map fun z=>if z.a≠a/\par z.a=z.b then z.a else z.b)[i]'(by rw [ai];exact li)=b:=by
   rw [iE];exact kid _ (eZ li) (ei ▸ jx)
 have vj:(rs.map fun z=>if z.a≠a/\par z.a=z.b then z.a else z.b)[j]'(by rw [ai];exact lj)=b:=by
   rw [iE];exact kid _ (eZ lj) (ej ▸ jy)
 rcases Nat.lt_trichotomy i j with z|z|z
 . exact absurd (vi.trans vj.symm) (nd i j _ _ z)
 . exact z
 . exact absurd (vj.trans vi.symm) (nd j i _ _ z)
theorem NO {a b:Int} {x:Road} (h:¬ sd x a b):g8 a b x=none:=by
 unfold g8;rw [aa (fun z=>h (.inl z)),aa (fun z=>h (.inr ⟨z.2,z.1⟩))]
theorem wE {m:Int} {rs:List Road} (g:Good m rs) {a b:Int} {i:Nat} {x:Road} (hi:rs[i]?=some x) (j:sd x a b):bM rs a b=g8 a b x:=by
 have lt:=(aq.mp hi);obtain ⟨lt,ex⟩:=lt;have e:rs=rs.take i++x::rs.drop (i+1):=by rw [<- ex,mH,fQ]
 have pre:bM (rs.take i) a b=none:=by
   unfold bM;rw [List.findSome?_eq_none_iff];intro y hy;refine NO fun jy=>?_;obtain ⟨k,hk⟩:=cg hy;have lk:=(aq.mp hk).1;rw [bu] at lk;rw [kY (by omega)] at hk;have:=GH g hk hi jy j;omega
 have hx:(g8 a b x).isSome=true:=by
   unfold g8;rcases j with z|z
   . rw [ag z];rfl
   . by_cases c:x.a=a/\x.b=b
     . rw [ag c];rfl
     . rw [aa c,ag ⟨z.2,z.1⟩];rfl
 obtain ⟨v,hv⟩:=dN.mp hx;have:bM (rs.take i++x::rs.drop (i+1)) a b=g8 a b x:=by
   unfold bM at pre ⊢;rw [iJ,pre,jt,hv]
   rfl
 rw [<- e] at this;exact this
theorem P9 {rs:List Road} {a b:Int} (h:¬ Adj rs a b):bM rs a b=none:=by
 cases q:bM rs a b with
 | none=>rfl
 | some v=>exact absurd (vO.mp (by rw [q];rfl)) h
theorem RE {x:Road} (h:x.a≠x.b):g8 x.a x.b x=some x.t:=by unfold g8;rw [ag ⟨rfl,rfl⟩]
theorem Rk {x:Road} (h:x.a≠x.b):g8 x.b x.a x=some x.u:=by unfold g8;rw [aa (fun z=>h z.1),ag ⟨rfl,rfl⟩]
theorem Qd {m:Int} {rs:List Road} (p:Int):m9 m rs p=(below m.toNat).filter fun q=>(bM rs p q).isSome:=by
 unfold m9
 congr 1
 funext q
 rw [eR,aU,vO,Ed]
end Pb
namespace L2
open PySem PySem.Spec PyProof.Rows
def cR (CX:CXT):Prop:=∀ outer H s e s',¬ CX outer H s E0 e s'
theorem cI {CX:CXT} (q:cR CX) {X:Cx}:yS CX X E0:=fun _ _ _ _ _ _ _ h=>(q _ _ _ _ _ h).elim
structure Df (K:PySem.W.Frag) (mg:Str->Option Value) (x:Str) (st:Stmt) (ps:List Str) (f:Addr) (fd:FuncData):Prop where
 F:Fun K x x st f fd
 m:mg x=some (.ref f)
 b:Binds K fd ps []
section
variable {P:Program} {w:World} {K:PySem.W.Frag} {mg:Str->Option Value} {base:Heap} {CX:CXT}
theorem Fun.okC {x qual:Str} {st:Stmt} {f:Addr} {fd:FuncData} {N ps:List Str} {k:Nat} {sp:Sp} (F:Fun K x qual st f fd) (S:FnScope N ps (ae st)) (len:∀ vs H Q E,sp vs H Q E->vs.length=ps.length)
   (hbody:∀ (cdv:Value) (A:Around) (outer:List Env) (s:Shared) (H:Hp) (vs:List V) (Q:VK) (E:XK),Room k (A.deeper (envOfC qual (ae st) s.heap.objs.size f cdv))->sp vs H Q E ->
     ∃ t,PSs (ux CX P w K mg base N qual (ae st) f cdv A outer s H E).nox (bw st) t/\t { nx:=fun _ H'=>Q .non H',rt:=Q } (start N vs) H):FnOk P w K mg base CX (k+1) f fd ps sp:=by
 obtain ⟨oc,od,kV,doc,pm,an,cdv,ct,osl,rfl,lk,hcd⟩:=F.ex;refine TL lk hcd S len fun A outer s H vs Q E hr hsp=>?_;obtain ⟨t,h,q⟩:=hbody cdv A outer s H vs Q E hr hsp;exact ⟨t,h.nox,q⟩
end
structure NmL (sc:Scope) (x:Str):Prop where
 l:sc.names.lookup x=some .local
 d:(x == ("__debug__":Str))=false
 c:(x == ("__classdict__":Str))=false
structure NmC (sc:Scope) (x:Str):Prop where
 l:sc.names.lookup x=some .cell
 d:(x == ("__debug__":Str))=false
 c:(x == ("__classdict__":Str))=false
structure NmG (sc:Scope) (x:Str):Prop where
 g:sc.names.lookup x=some .globalImplicit
 d:(x == ("__debug__":Str))=false
 n:x≠"__name__"
theorem us1 {us:List Value} (h:us.length=1):∃ a0,us=[a0]:=List.length_eq_one_iff.mp h
theorem us2 {us:List Value} (h:us.length=2):∃ a0 a1,us=[a0,a1]:=by
 cases us with
 | nil=>cases h
 | cons a0 t =>
   obtain ⟨a1,e⟩:=us1 (kt h);subst e;exact ⟨a0,a1,rfl⟩
theorem us3 {us:List Value} (h:us.length=3):∃ a0 a1 a2,us=[a0,a1,a2]:=by
 cases us with
 | nil=>cases h
 | cons a0 t =>
   obtain ⟨a1,a2,e⟩:=us2 (kt h);subst e;exact ⟨a0,a1,a2,rfl⟩
theorem us4 {us:List Value} (h:us.length=4):∃ a0 a1 a2 a3,us=[a0,a1,a2,a3]:=by
 cases us with
 | nil=>cases h
 | cons a0 t =>
   obtain ⟨a1,a2,a3,e⟩:=us3 (kt h);subst e;exact ⟨a0,a1,a2,a3,rfl⟩
theorem us5 {us:List Value} (h:us.length=5):∃ a0 a1 a2 a3 a4,us=[a0,a1,a2,a3,a4]:=by
 cases us with
 | nil=>cases h
 | cons a0 t =>
   obtain ⟨a1,a2,a3,a4,e⟩:=us4 (kt h);subst e;exact ⟨a0,a1,a2,a3,a4,rfl⟩
def nmL (sc:Scope) (x:Str):Bool:=decide (sc.names.lookup x=some .local) && !(x == ("__debug__":Str)) && !(x == ("__classdict__":Str))
def nmC (sc:Scope) (x:Str):Bool:=decide (sc.names.lookup x=some .cell) && !(x == ("__debug__":Str)) && !(x == ("__classdict__":Str))
def nmG (sc:Scope) (x:Str):Bool:=decide (sc.names.lookup x=some .globalImplicit) && !(x == ("__debug__":Str)) && !decide (x="__name__")
theorem NmL.of {sc:Scope} {x:Str} (h:nmL sc x=true):NmL sc x:=by
 unfold nmL at h;simp only [bn,aU,fS] at h;exact ⟨h.1.1,h.1.2,h.2⟩
theorem NmC.of {sc:Scope} {x:Str} (h:nmC sc x=true):NmC sc x:=by
 unfold nmC at h;simp only [bn,aU,fS] at h;exact ⟨h.1.1,h.1.2,h.2⟩
theorem NmG.of {sc:Scope} {x:Str} (h:nmG sc x=true):NmG sc x:=by
 unfold nmG at h;simp only [bn,aU,fS,k7] at h;exact ⟨h.1.1,h.1.2,h.2⟩
def VU (N ps:List Str) (sc:Scope):Bool:=decide (sc.kind=.function) && !sc.isCoroutine && !sc.isGenerator && decide N.Nodup && decide (N.take ps.length=ps) && (ps.all fun x=>decide (sc.names.lookup x=some .local\/sc.names.lookup x=some .cell)) && (sc.names.all fun y=>decide (y.2≠.free))
theorem FnScope.of {N ps:List Str} {sc:Scope} (h:VU N ps sc=true):FnScope N ps sc:=by
 unfold VU at h;simp only [bn,aU,fS,dz] at h;obtain ⟨⟨⟨⟨⟨⟨h1,h2⟩,h3⟩,h4⟩,h5⟩,h6⟩,h7⟩:=h;exact ⟨h1,h2,h3,h4,h5,h6,h7⟩
theorem pvl {X:Cx} (i:Nat) {x:Str} {pos:Pos} (n:NmL X.env.scope x) (hN:X.N[i]?=some x:=by rfl):PE X (.Name x pos) (Gg i):=IH hN (.inl n.l) n.d n.c
theorem pvc {X:Cx} (i:Nat) {x:Str} {pos:Pos} (n:NmC X.env.scope x) (hN:X.N[i]?=some x:=by rfl):PE X (.Name x pos) (Gg i):=IH hN (.inr (.inl n.l)) n.d n.c
theorem QX {CX:CXT} {P:Program} {w:World} {K:PySem.W.Frag} {mg:Str->Option Value} {base:Heap} {N:List Str} {qual:Str} {scope:Scope} {f:Addr} {cd:Value} {A:Around} {outer:List Env} {s:Shared} {H:Hp} {E:XK} :
   (ux CX P w K mg base N qual scope f cd A outer s H E).K=K:=rfl
theorem GC (D:Ends) (σ:St) (H:Hp):tNever D σ H=False:=rfl
theorem UW (i j:Int):xb (.int i) (.int j)=true:=rfl
theorem UR (i j:Bool):xb (.bl i) (.bl j)=true:=rfl
theorem U5 (i:Int):xb (.int i) .non=true:=rfl
theorem Uj (i:Int):xb .non (.int i)=true:=rfl
theorem T6:xb .non .non=true:=rfl
theorem UH (i j:Str):xb (.str i) (.str j)=true:=rfl
theorem ixT {K:PySem.W.Frag} {H:Hp} {p:Addr} {xs:List V} {i:Int} {v:V} {Q:VK} (h:H p=some (.tup xs)) (e:atI xs i=some v) (q:Q v H):OE K (.ref p) (.int i) H Q:=⟨p,xs,i,v,rfl,rfl,SqT.of h,e,q⟩
theorem ixL {K:PySem.W.Frag} {H:Hp} {p:Addr} {xs:List V} {i:Int} {v:V} {Q:VK} (h:H p=some (.lst xs)) (e:atI xs i=some v) (q:Q v H):Ip K (.ref p) (.int i) H Q:=⟨p,xs,i,v,rfl,rfl,SqL.of h,e,q⟩
theorem ixS {K:PySem.W.Frag} {H:Hp} {p:Addr} {xs:List V} {i:Int} {v:V} {Q:VK} (h:SqL K H p xs) (e:atI xs i=some v) (q:Q v H):Ip K (.ref p) (.int i) H Q:=⟨p,xs,i,v,rfl,rfl,h,e,q⟩
theorem tyL {K:PySem.W.Frag} {H:Hp} {l:Addr} {xs:List V} (h:H l=some (.lst xs)):tyV K "list" (.ref l) H:=.inl ⟨rfl,_,SqL.of h⟩
theorem tD {H:Hp} {l:Addr} {xs:List V} {y:V} {Q:VK} (h:H l=some (.lst xs)) (hz:xs.length<sizeLine) (q:Q .non (upd H l (.lst (xs++[y])))):rAppend (.ref l) [y] H Q:=⟨l,xs,y,rfl,rfl,h,hz,q⟩
theorem WQ {H:Hp} {l:Addr} {xs:List V} {i:Int} {y:V} {Q:VK} (h:H l=some (.lst xs)) (h0:0<=i) (h1:i<=xs.length) (hz:xs.length<sizeLine) (q:Q .non (upd H l (.lst (xs.take i.toNat++y::xs.drop i.toNat)))):rInsert (.ref l) [.int i,y] H Q :=
 ⟨l,xs,i,y,rfl,rfl,h,h0,h1,hz,q⟩
theorem Rj {H:Hp} {l:Addr} {xs:List V} {y:V} {Q:VK} (h:H l=some (.lst (xs++[y]))) (q:Q y (upd H l (.lst xs))):rPop (.ref l) [] H Q :=
 ⟨l,xs++[y],y,rfl,rfl,h,by simp,by rw [List.dropLast_concat];exact q⟩
theorem eT {n:Nat} (h:n<=100000):n<sizeLine:=ju h (by decide)
theorem cu {n:Nat} (h:n<=100000):n<=sizeLine:=kb (eT h)
theorem Cz {α:Type} {xs:List α} {i:Int} {v:α} (h0:0<=i) (h:xs[i.toNat]?=some v):atI xs i=some v:=by
 obtain ⟨n,rfl⟩:∃ n:Nat,i=n:=⟨i.toNat,by omega⟩;exact MP (by simpa using h)
theorem D7 {X:Cx} {x:Str} {i:Int} {pos:Pos} (hg:Gl X x) (hm:∃ t,X.mg x=some (.int i t)) (hd:(x == ("__debug__":Str))=false:=by decide):PE X (.Name x pos) (tC (.int i)):=by
 obtain ⟨t,e⟩:=hm;exact Uq hg e ⟨t,rfl⟩ hd
def Itx (K:PySem.W.Frag):Bool->Addr->It
 | true,a=>Itl K a
 | false,a=>Itt K a
def RZ (K:PySem.W.Frag) (c:Bool) (tl:TE):TI:=fun σ H R=>tl σ H fun x H1=>∃ a,x=.ref a/\(∃ xs,SqX K c H1 a xs)/\R (Itx K c a) H1
theorem IK {X:Cx} {tg l:Expr} {tl:TE} (c:Bool) (hl:PE X l tl):PI X tg l (RZ X.K c tl):=by
 cases c
 . exact vH hl
 . exact p7 hl
theorem T8 {K:PySem.W.Frag} {c:Bool} {a:Addr} {xs:List V} {g:TG} {tb:TS} {D:Ends} {σ:St} {H:Hp} (Pv:Nat->St->Hp->Prop) (h0:Pv 0 σ H) (hl:∀ i σ H,i<=xs.length->Pv i σ H->SqX K c H a xs)
   (hs:∀ i x σ H,xs[i]?=some x->Pv i σ H->g x σ H fun σ2 H2=>tb { D with nx:=Pv (i+1),ct:=Pv (i+1),bk:=D.nx } σ2 H2) (hd:∀ σ H,Pv xs.length σ H->D.nx σ H) :
   ∃ W:Nat->Nat->St->Hp->Prop,(∃ m,W 0 m σ H)/\∀ i m σ H,W i m σ H ->
     ((Itx K c a).stop i H/\D.nx σ H)\/((Itx K c a).go i H/\∃ N:St->Hp->Prop,(∀ σ' H',N σ' H'->∃ m',m'<m/\W (i+1) m' σ' H')/\∀ x H',(Itx K c a).yld i H x H'->g x σ H' fun σ2 H2=>tb { D with nx:=N,ct:=N,bk:=D.nx } σ2 H2):=by
 cases c
 . exact Cw Pv h0 hl hs hd
 . exact KU Pv h0 hl hs hd
def EN (J:It) (p:Addr) (Q:VK) (g:TG) (tc:TT) (te:TE) (σ0:St) (H0:Hp):Prop :=
 ∃ W:Nat->Nat->List V->St->Hp->Prop,(∃ m,W 0 m [] σ0 H0)/\∀ i m ys σc Hc,W i m ys σc Hc ->
   (J.stop i Hc/\Q (.ref p) Hc)\/(J.go i Hc/\∀ x H',J.yld i Hc x H'->g x σc H' fun σ2 H2=>tc σ2 H2 fun b H3 =>
     if b=true then te σ2 H3 fun y H4=>H4 p=some (.lst ys)/\ys.length<sizeLine/\∃ m',m'<m/\W (i+1) m' (ys++[y]) σ2 (upd H4 p (.lst (ys++[y])))
     else ∃ m',m'<m/\W (i+1) m' ys σ2 H3)
theorem GL {own:Nat} {js:List Nat} {wi:TI} {g:TG} {tc:TT} {te:TE} {σ:St} {H:Hp} {Q:VK}:O4 own js wi g tc te σ H Q=wi σ H fun J H1=>∀ p,H1 p=none->EN J p Q g tc te (nI own js σ) (upd H1 p (.lst [])):=rfl
def wQ (J:It) (D:Ends) (g:TG) (tb:TS) (σ:St) (H:Hp):Prop:=∃ W:Nat->Nat->St->Hp->Prop,(∃ m,W 0 m σ H)/\∀ i m σ H,W i m σ H ->
 (J.stop i H/\D.nx σ H)\/(J.go i H/\∃ N:St->Hp->Prop,(∀ σ' H',N σ' H'->∃ m',m'<m/\W (i+1) m' σ' H')/\∀ x H',J.yld i H x H'->g x σ H' fun σ2 H2=>tb { D with nx:=N,ct:=N,bk:=D.nx } σ2 H2)
theorem Ng {wi:TI} {g:TG} {tb:TS} {D:Ends} {σ:St} {H:Hp}:V6 wi g tb D σ H=wi σ H fun J H1=>wQ J D g tb σ H1:=rfl
theorem tR {K:PySem.W.Frag} {c:Bool} {a p:Addr} {xs:List V} {Q:VK} {g:TG} {tc:TT} {te:TE} {σ0:St} {H0:Hp} (Pv:Nat->List V->St->Hp->Prop) (h0:Pv 0 [] σ0 H0) (hl:∀ i ys σ H,i<=xs.length->Pv i ys σ H->SqX K c H a xs)
   (hs:∀ (i:Nat) (x:V) (ys:List V) (σ:St) (H:Hp) (N:List V->St->Hp->Prop),(∀ ys' σ' H',Pv (i+1) ys' σ' H'->N ys' σ' H')->xs[i]?=some x->Pv i ys σ H->g x σ H fun σ2 H2=>tc σ2 H2 fun b H3 =>
     if b=true then te σ2 H3 fun y H4=>H4 p=some (.lst ys)/\ys.length<sizeLine/\N (ys++[y]) σ2 (upd H4 p (.lst (ys++[y]))) else N ys σ2 H3)
   (hd:∀ ys σ H,Pv xs.length ys σ H->Q (.ref p) H):EN (Itx K c a) p Q g tc te σ0 H0:=by
 refine ⟨fun i m ys σ H=>m=xs.length - i/\i<=xs.length/\Pv i ys σ H,⟨xs.length,by simp,bo _,h0⟩,?_⟩;rintro i m ys σ H ⟨rfl,hi,pv⟩;have q:=hl i ys σ H hi pv;by_cases hlt:i<xs.length
 . refine .inr ⟨?_,fun x H' y=>?_⟩
   . cases c
     . exact ⟨xs,xs[i],q,by simp [hlt]⟩
     . exact ⟨xs,xs[i],q,by simp [hlt]⟩
   . have e:H'=H/\xs[i]?=some x:=by
       cases c
       . exact ⟨y.1,y.2 xs q⟩
       . exact ⟨y.1,y.2 xs q⟩
     obtain ⟨rfl,hx⟩:=e;exact hs i x ys σ _ (fun ys' σ' H'=>∃ m',m'<xs.length - i/\(m'=xs.length - (i+1)/\i+1<=xs.length/\Pv (i+1) ys' σ' H')) (fun ys' σ' H' pv'=>⟨xs.length - (i+1),by omega,rfl,hlt,pv'⟩) hx pv
 . have e:i=xs.length:=by omega
   subst e;refine .inl ⟨?_,hd ys σ H pv⟩;cases c
   . exact ⟨xs,q,aI _⟩
   . exact ⟨xs,q,aI _⟩
theorem sH {lo:Int} {n:Nat} {p:Addr} {Q:VK} {g:TG} {tc:TT} {te:TE} {σ0:St} {H0:Hp} (Pv:Nat->List V->St->Hp->Prop) (h0:Pv 0 [] σ0 H0)
   (hs:∀ (i:Nat) (ys:List V) (σ:St) (H:Hp) (N:List V->St->Hp->Prop),(∀ ys' σ' H',Pv (i+1) ys' σ' H'->N ys' σ' H')->i<n->Pv i ys σ H->g (.int (lo+i)) σ H fun σ2 H2=>tc σ2 H2 fun b H3 =>
     if b=true then te σ2 H3 fun y H4=>H4 p=some (.lst ys)/\ys.length<sizeLine/\N (ys++[y]) σ2 (upd H4 p (.lst (ys++[y]))) else N ys σ2 H3)
   (hd:∀ ys σ H,Pv n ys σ H->Q (.ref p) H):EN (Itr lo n) p Q g tc te σ0 H0:=by
 refine ⟨fun i m ys σ H=>m=n - i/\i<=n/\Pv i ys σ H,⟨n,by simp,bo _,h0⟩,?_⟩;rintro i m ys σ H ⟨rfl,hi,pv⟩;by_cases hlt:i<n
 . refine .inr ⟨hlt,fun x H' y=>?_⟩;obtain ⟨rfl,rfl⟩:=y;exact hs i ys σ _ (fun ys' σ' H'=>∃ m',m'<n - i/\(m'=n - (i+1)/\i+1<=n/\Pv (i+1) ys' σ' H')) (fun ys' σ' H' pv'=>⟨n - (i+1),by omega,rfl,hlt,pv'⟩) hlt pv
 . have e:i=n:=by omega
   subst e;exact .inl ⟨aI _,hd ys σ H pv⟩
theorem mt:bootBuiltins "len"=some (.builtin "len"):=by decide +kernel
theorem kM:bootBuiltins "isinstance"=some (.builtin "isinstance"):=by decide +kernel
theorem E7:bootBuiltins "all"=some (.builtin "all"):=by decide +kernel
theorem PQ:bootBuiltins "min"=some (.builtin "min"):=by decide +kernel
theorem Vq:bootBuiltins "max"=some (.builtin "max"):=by decide +kernel
theorem P6:bootBuiltins "sorted"=some (.builtin "sorted"):=by decide +kernel
theorem Wj:bootBuiltins "int"=some (.type "int"):=by decide +kernel
theorem va:bootBuiltins "list"=some (.type "list"):=by decide +kernel
theorem ie:bootBuiltins "tuple"=some (.type "tuple"):=by decide +kernel
theorem Ue:bootBuiltins "bool"=some (.type "bool"):=by decide +kernel
section
variable {X:Cx} {a b o e:Expr} {es:List Expr} {ta tb to:TE} {t:TA} {pos apos cpos:Pos} {f name:Str} {T id:String} {r:V->List V->Hp->VK->Prop}
theorem Gn (K:PySem.W.Frag) (h:X.K=K):qb X (.type "tuple") (fun xs H Q=>∃ p ys,xs=[.ref p]/\((SqL K H p ys/\∀ l,H l=none->Q (.ref l) (upd H l (.tup ys)))\/(SqT K H p ys/\Q (.ref p) H))):=by subst h;exact fN
theorem Am (K:PySem.W.Frag) (h:X.K=K):IxR X (Ip K):=by subst h;exact b6
theorem MZ (K:PySem.W.Frag) (h:X.K=K):IxR X (OE K):=by subst h;exact fh
end
theorem Ez {x:Str} {k:NameKind}:∀ {l:List (Str × NameKind)},l.lookup x=some k->∃ y,(y,k)∈l
 | [],h=>by simp at h
 | (n,j)::r,h=>by
   rw [bS] at h;cases q:x == n with
   | true =>
     rw [q] at h;cases h;exact ⟨n,aw⟩
   | false =>
     rw [q] at h;obtain ⟨y,hy⟩:=Ez h;exact ⟨y,ak _ hy⟩
theorem vV {X:Cx} {Nc:List Str} {scope:Scope} (own:Nat) (hf:∀ y∈scope.names,y.2≠.free) (hc:∀ y∈scope.names,y.2≠.cell) (hk:scope.kind=.function) (hn:∀ y∈scope.names,y.2=.local->scope.names.lookup y.1=some .local)
   (hl:Nc.length=own):CompTxt X Nc own [] scope [] where
 clos:=closureFor_none hf
 kind:=hk
 nocell:=hc
 names:=hn
 cells:=fun x c h=>by cases h
 has:=fun x h=>by
   have key:∀ k,(relabel scope X.env).names.lookup x=some k->k≠.cell/\k≠.free:=fun k e=>by
     obtain ⟨y,hy⟩:=Ez e;obtain ⟨⟨n,k0⟩,hm,e2⟩:=aY.mp hy;have h1:=hf _ hm;have h2:=hc _ hm;have e3:(k0 == NameKind.free)=false:=(by simpa using h1);simp only [e3,kj,dU,if_false] at e2;cases e2;exact ⟨h2,h1⟩
   rcases h with h|h
   . exact absurd rfl (key _ h).1
   . exact absurd rfl (key _ h).2
 len:=by simpa using hl
 outer:=fun i x h=>by
   rw [cG (by omega)] at h;cases h
theorem RA {K:PySem.W.Frag} {c:Bool} {a:Addr} {xs:List V} {g:TG} {tb:TS} {D:Ends} {σ:St} {H:Hp} (Pv:Nat->St->Hp->Prop) (h0:Pv 0 σ H) (hl:∀ i σ H,i<=xs.length->Pv i σ H->SqX K c H a xs)
   (hs:∀ (i:Nat) (x:V) (σ:St) (H:Hp) (N:St->Hp->Prop),(∀ σ' H',Pv (i+1) σ' H'->N σ' H')->xs[i]?=some x->Pv i σ H->g x σ H fun σ2 H2=>tb { D with nx:=N,ct:=N,bk:=D.nx } σ2 H2) (hd:∀ σ H,Pv xs.length σ H->D.nx σ H) :
   wQ (Itx K c a) D g tb σ H:=T8 Pv h0 hl (fun i x σ H hx p=>hs i x σ H (Pv (i+1)) (fun _ _ z=>z) hx p) hd
theorem wZ {K:PySem.W.Frag} {a:Addr} {xs:List V} {g:TG} {tb:TS} {D:Ends} {σ:St} {H:Hp} (Pv:Nat->St->Hp->Prop) (h0:Pv 0 σ H) (hl:∀ i σ H,i<=xs.length->Pv i σ H->SqL K H a xs)
   (hs:∀ (i:Nat) (x:V) (σ:St) (H:Hp) (N:St->Hp->Prop),(∀ σ' H',Pv (i+1) σ' H'->N σ' H')->xs[i]?=some x->Pv i σ H->g x σ H fun σ2 H2=>tb { D with nx:=N,ct:=N,bk:=D.nx } σ2 H2) (hd:∀ σ H,Pv xs.length σ H->D.nx σ H) :
   wQ (Itl K a) D g tb σ H:=KU Pv h0 hl (fun i x σ H hx p=>hs i x σ H (Pv (i+1)) (fun _ _ z=>z) hx p) hd
theorem Jm {K:PySem.W.Frag} {a:Addr} {xs:List V} {g:TG} {tb:TS} {D:Ends} {σ:St} {H:Hp} (Pv:Nat->St->Hp->Prop) (h0:Pv 0 σ H) (hl:∀ i σ H,i<=xs.length->Pv i σ H->SqT K H a xs)
   (hs:∀ (i:Nat) (x:V) (σ:St) (H:Hp) (N:St->Hp->Prop),(∀ σ' H',Pv (i+1) σ' H'->N σ' H')->xs[i]?=some x->Pv i σ H->g x σ H fun σ2 H2=>tb { D with nx:=N,ct:=N,bk:=D.nx } σ2 H2) (hd:∀ σ H,Pv xs.length σ H->D.nx σ H) :
   wQ (Itt K a) D g tb σ H:=Cw Pv h0 hl (fun i x σ H hx p=>hs i x σ H (Pv (i+1)) (fun _ _ z=>z) hx p) hd
theorem uP {lo:Int} {n:Nat} {g:TG} {tb:TS} {D:Ends} {σ:St} {H:Hp} (Pv:Nat->St->Hp->Prop) (h0:Pv 0 σ H)
   (hs:∀ (i:Nat) (σ:St) (H:Hp) (N:St->Hp->Prop),(∀ σ' H',Pv (i+1) σ' H'->N σ' H')->i<n->Pv i σ H->g (.int (lo+i)) σ H fun σ2 H2=>tb { D with nx:=N,ct:=N,bk:=D.nx } σ2 H2) (hd:∀ σ H,Pv n σ H->D.nx σ H) :
   wQ (Itr lo n) D g tb σ H:=Pq Pv h0 (fun i σ H hi p=>hs i σ H (Pv (i+1)) (fun _ _ z=>z) hi p) hd
theorem F9 {c:TT} {tb:TS} {D:Ends} {σ:St} {H:Hp} (W:Nat->St->Hp->Prop) (n0:Nat) (h0:W n0 σ H)
   (hs:∀ (n:Nat) (σ:St) (H:Hp) (N:St->Hp->Prop),(∀ n' σ' H',n'<n->W n' σ' H'->N σ' H')->(∀ σ' H',N σ' H'->∃ m',m'<n/\W m' σ' H')->W n σ H ->
     c σ H fun b H1=>if b=true then ∃ N:St->Hp->Prop,(∀ σ' H',N σ' H'->∃ m',m'<n/\W m' σ' H')/\tb { D with nx:=N,ct:=N,bk:=D.nx } σ H1 else D.nx σ H1):JS c tb D σ H :=
 ⟨W,⟨n0,h0⟩,fun n σ H w=>hs n σ H (fun σ' H'=>∃ m',m'<n/\W m' σ' H') (fun n' _ _ hn w'=>⟨n',hn,w'⟩) (fun _ _ z=>z) w⟩
theorem p60:(0:Int)<10^(60:Int).toNat:=Int.pow_pos (by decide)
open Pb
def pX (r:Road):List V:=[.int r.a,.int r.b,.int r.t,.int r.u]
abbrev RoadsAt (H:Hp):List Addr->List Road->Prop:=Paired fun p r=>H p=some (.tup (pX r))
theorem RoadsAt.same {H H':Hp} (e:Same H H') {ps:List Addr} {rs:List Road} (h:RoadsAt H ps rs):RoadsAt H' ps rs:=Paired.imp' (fun p r q=>e p _ q) h
theorem RoadsAt.get {H:Hp}:∀ {ps:List Addr} {rs:List Road} {i:Nat} {x:V},RoadsAt H ps rs->(ps.map V.ref)[i]?=some x->∃ p r,x=.ref p/\ps[i]?=some p/\rs[i]?=some r/\H p=some (.tup (pX r))
 | _,_,i,x,.nil,e=>by simp at e
 | _,_,0,x,.cons (a:=p) (b:=r) h hs,e=>⟨p,r,by simpa using e.symm,by simp,by simp,h⟩
 | a::l1,_,i+1,x,.cons h hs,e=>by
   have e':(List.map V.ref l1)[i]?=some x:=by simpa using e
   obtain ⟨p,r,h1,h2,h3,h4⟩:=RoadsAt.get hs e';exact ⟨p,r,h1,by simpa using h2,by simpa using h3,h4⟩
theorem Same.tup {K:PySem.W.Frag} {H H':Hp} {a:Addr} {xs:List V} (e:Same H H') (h:SqT K H a xs):SqT K H' a xs:=by
 rcases h with (h|⟨o,h⟩)|h
 . exact .inl (.inl (e _ _ h))
 . exact .inl (.inr ⟨o,e _ _ h⟩)
 . exact .inr h
theorem Same.sqX {K:PySem.W.Frag} {H H':Hp} {c:Bool} {a:Addr} {xs:List V} (e:Same H H') (h:SqX K c H a xs):SqX K c H' a xs:=by
 cases c
 . exact Same.tup e h
 . exact Same.seq e h
theorem Same.new {H:Hp} {p:Addr} (o:HO) (h:H p=none):Same H (upd H p o):=fun b u e=>by rw [aX (dw e h)];exact e
end L2
namespace L2
open PySem PySem.Spec PyProof.Rows
abbrev bmV:List Value:=[.type "ValueError",.type "Exception",.type "BaseException",.type "object"]
end L2
namespace L2
open PySem PySem.Spec PyProof.Rows
def rY (h:Heap) (ea:Addr) (cls:Value) (od:Option Addr) (head:Value):Prop:=∃ oe vs,h.get? ea=some oe/\oe.cls=cls/\oe.dict=od/\oe.data=.fields vs/\vs[1]?=some head/\vs[2]?=some .none
def TbO (h:Heap) (T:Addr) (fl:Value):Prop:=∃ oT ts,h.get? T=some oT/\oT.data=.fields ts/\ts[3]?=some fl
structure Err (h:Heap) (ea T:Addr) (cls:Value) (od:Option Addr) (fl:Value):Prop where
 e:rY h ea cls od (.ref T)
 t:TbO h T fl
 ne:T≠ea
structure Kept (fs xs:List Addr) (h h':Heap):Prop where
 keep:∀ b o,h.get? b=some o->b ∉ fs->b ∉ xs->h'.get? b=some o
 slot:∀ b o,h.get? b=some o->b∈fs->b ∉ xs->∃ sl,h'.get? b=some { o with slots:=sl }
 there:∀ b o,h.get? b=some o->∃ o',h'.get? b=some o'
theorem Kept.mono {fs xs ys:List Addr} {h h':Heap} (k:Kept fs xs h h') (s:∀ b∈xs,b∈ys):Kept fs ys h h':=⟨fun b o e f x=>k.keep b o e f fun z=>x (s b z),fun b o e f x=>k.slot b o e f fun z=>x (s b z),k.there⟩
theorem Kept.trans {fs xs:List Addr} {h h1 h2:Heap} (a:Kept fs xs h h1) (b:Kept fs xs h1 h2):Kept fs xs h h2 where
 keep:=fun c o e f x=>b.keep c o (a.keep c o e f x) f x
 slot:=fun c o e f x=>by
   obtain ⟨s1,e1⟩:=a.slot c o e f x;obtain ⟨s2,e2⟩:=b.slot c _ e1 f x;exact ⟨s2,e2⟩
 there:=fun c o e=>by
   obtain ⟨o1,e1⟩:=a.there c o e;exact b.there c o1 e1
theorem Kept.of_all {fs xs:List Addr} {h h':Heap} (k:∀ b o,h.get? b=some o->h'.get? b=some o):Kept fs xs h h':=⟨fun b o e _ _=>k b o e,fun b o e _ _=>⟨o.slots,k b o e⟩,fun b o e=>⟨o,k b o e⟩⟩
theorem Eo {fs xs:List Addr} {h:Heap} {a:Addr} {oa:Obj} {vs:Array Value} {i:Nat} {v:Value} (ha:h.get? a=some oa) (hd:oa.data=.fields vs) (hx:a∈xs):Kept fs xs h (h.update a (Obj.mapFields (·.setIfInBounds i v))):=by
 have oth:∀ b o,h.get? b=some o->b ∉ xs->(h.update a (Obj.mapFields (·.setIfInBounds i v))).get? b=some o:=fun b o e x=>by
   rw [cT _ _ (fun (z:a=b)=>x (z ▸ hx))];exact e
 refine ⟨fun b o e _ x=>oth b o e x,fun b o e _ x=>⟨o.slots,oth b o e x⟩,fun b o e=>?_⟩;by_cases z:b=a
 . subst z;exact ⟨_,eI _ ha (ii (ft hd _))⟩
 . rw [cT _ _ (Ne.symm z)];exact ⟨o,e⟩
theorem Rm {h:Heap} {ea:Addr} {cls hd v:Value} {od:Option Addr} (e:rY h ea cls od hd):rY (h.update ea (Obj.mapFields (·.setIfInBounds 1 v))) ea cls od v:=by
 obtain ⟨oe,vs,h1,h2,h3,h4,h5,h6⟩:=e;have sz:1<vs.size:=(cZ.mp h5).1;refine ⟨_,_,eI _ h1 (ii (ft h4 _)),?_,?_,ft h4 _,by simp [sz],by rw [iH (by decide)];exact h6⟩
 . rw [<- h2];exact Obj.cls_mapFields _ _
 . rw [<- h3];obtain ⟨c,d,dt,sl⟩:=oe;cases dt <;> rfl
theorem EV {h:Heap} {ea a:Addr} {cls hd:Value} {od:Option Addr} {f:Obj->Obj} (e:rY h ea cls od hd) (ne:a≠ea):rY (h.update a f) ea cls od hd:=by
 obtain ⟨oe,vs,h1,h2⟩:=e;exact ⟨oe,vs,by rw [cT _ _ ne];exact h1,h2⟩
theorem G6 {h h':Heap} {ea:Addr} {cls hd:Value} {od:Option Addr} (e:rY h ea cls od hd) (k:∀ o,h.get? ea=some o->h'.get? ea=some o):rY h' ea cls od hd:=by
 obtain ⟨oe,vs,h1,h2⟩:=e;exact ⟨oe,vs,k _ h1,h2⟩
theorem Qs {h base:Heap} {ea:Addr} {cls hd:Value} {od:Option Addr} {l:List Env} (e:rY h ea cls od hd) (f:h.FunFrames base l):ea ∉ frs l:=fun z=>by
 obtain ⟨oe,vs,h1,_,_,h4,_⟩:=e;obtain ⟨_,o,ho,hn⟩:=f.mem z;rw [h1] at ho;cases ho;exact hn vs h4
theorem SA {h base:Heap} {T:Addr} {fl:Value} {l:List Env} (e:TbO h T fl) (f:h.FunFrames base l):T ∉ frs l:=fun z=>by
 obtain ⟨oe,vs,h1,h4,_⟩:=e;obtain ⟨_,o,ho,hn⟩:=f.mem z;rw [h1] at ho;cases ho;exact hn vs h4
section
variable {M:Model} {A:Around} {E:Value->Shared->Prop} {s:Shared} {Q:Unit->Shared->Prop} {fs:List Addr} {ea T L:Addr} {cls fl hd:Value} {od:Option Addr} {base:Heap} {env:Env} {outer:List Env}
theorem Nh (r:Err s.heap ea T cls od fl) (h:∀ h',Err h' ea T cls od .none->Kept fs [T] s.heap h'->Q () { s with heap:=h' }):wpAny M A (setFlight (.ref ea) none) Q E s:=by
 obtain ⟨⟨oe,vs,h1,h2,h3,h4,h5,h6⟩,⟨oT,ts,t1,t2,t3⟩,ne⟩:=r;have sz:3<ts.size:=(cZ.mp t3).1;unfold setFlight;refine aj (lm h1 h4 h5 ?_);rw [ag (by simp:(Value.ref T != Value.none)=true)];refine mj t1 t2 sz (h _ ⟨EV ⟨oe,vs,h1,h2,h3,h4,h5,h6⟩ ne,⟨_,_,eI _ t1 (ii (ft t2 _)),ft t2 _,by simp [sz]⟩,ne⟩ (Eo t1 t2 (by simp)))
theorem Jp {head:Value} {hadNext:Bool} (hfr:A.frames=some (env::outer)) (hl:s.heap.FunFrames base (env::outer)) (hf:env.frame=some L) (r:rY s.heap ea cls od hd)
   (h:∀ h' T',Err h' ea T' cls od (rawInt L)->Kept (frs (env::outer)) [ea] s.heap h'->s.heap.get? T'=none->Q () { s with heap:=h' }) :
   wpAny M A (do let a <- frameOf env;let pl <- entryPlaceOf L hadNext;let b <- EntryCells.newEntry head a .none (rawInt L) .none pl;setField (.ref ea) 1 b) Q E s:=by
 have nf:=Qs r hl;refine aj (wpAny_frameOf_fun hfr hl hf fun g1 so=>aj (wpAny_entryPlaceOf fun pl hpl=>?_));unfold EntryCells.newEntry newFields;refine aj (gW ?_ (hpl.sizeOk5 _ _ _ _ _));have r1:rY g1 ea cls od hd:=G6 r fun o e=>(so.2.1 ea nf).trans e;generalize ht:({ cls:=.type "traceback",dict:=none,data:=.fields ([head,.ref L,.none,rawInt L,.none]++(if pl.isEmpty then List.replicate 6 Value.none else pl)).toArray }:Obj)=tb;have r2:rY (g1.push tb) ea cls od hd:=G6 r1 fun o e=>aJ _ e;obtain ⟨oe,vs,e1,e2,e3,e4,e5,e6⟩:=id r2;have lt:ea<g1.objs.size:=by
   obtain ⟨_,_,e,_⟩:=r1;exact aG e
 have hT:(g1.push tb).get? g1.objs.size=some tb:=bg g1 (by rw [<- ht];rfl);refine mj e1 e4 (cZ.mp e5).1 (h _ g1.objs.size ⟨Rm r2,⟨tb,([head,.ref L,.none,rawInt L,.none]++(if pl.isEmpty then List.replicate 6 Value.none else pl)).toArray,?_,by rw [<- ht],by simp⟩,kg lt⟩ ?_ ?_)
 . rw [cT _ _ (aO lt)];exact hT
 . have k1:Kept (frs (env::outer)) [ea] s.heap g1:=⟨fun b o e f _=>(so.2.1 b f).trans e,fun b o e _ _=>so.2.2 b o e,fun b o e=>by
     obtain ⟨sl,z⟩:=so.2.2 b o e;exact ⟨_,z⟩⟩
   exact k1.trans ((Kept.of_all fun b o e=>aJ _ e).trans (Eo e1 e4 (by simp)))
 . exact Heap.get?_none_of_le (by rw [so.1];exact aI _)
theorem Te (hfr:A.frames=some (env::outer)) (hl:s.heap.FunFrames base (env::outer)) (hf:env.frame=some L) (r:rY s.heap ea cls od .none)
   (h:∀ h' T',Err h' ea T' cls od (rawInt L)->Kept (frs (env::outer)) [ea] s.heap h'->s.heap.get? T'=none->Q () { s with heap:=h' }):wpAny M A (noteFrame (.ref ea) env) Q E s:=by
 obtain ⟨oe,vs,e1,e2,e3,e4,e5,e6⟩:=id r;unfold noteFrame;simp only [hf];refine aj (lm e1 e4 e5 ?_);rw [aa (by decide)];exact Jp hfr hl hf r h
theorem Up (hfr:A.frames=some (env::outer)) (hl:s.heap.FunFrames base (env::outer)) (hf:env.frame=some L) (r:Err s.heap ea T cls od .none)
   (h:∀ h' T',Err h' ea T' cls od (rawInt L)->Kept (frs (env::outer)) [ea,T] s.heap h'->s.heap.get? T'=none->Q () { s with heap:=h' }):wpAny M A (noteFrame (.ref ea) env) Q E s:=by
 have nT:=SA r.t hl;obtain ⟨⟨oe,vs,e1,e2,e3,e4,e5,e6⟩,⟨oT,ts,t1,t2,t3⟩,ne⟩:=id r;unfold noteFrame;simp only [hf];refine aj (lm e1 e4 e5 ?_);rw [ag (by simp:(Value.ref T != Value.none)=true)];refine aj (lm t1 t2 t3 ?_);rw [aa (by simp [rawInt])];have k1:Kept (frs (env::outer)) [ea,T] s.heap (s.heap.update T (Obj.mapFields (·.setIfInBounds 3 Value.none))):=Eo t1 t2 (by simp);refine aj (mj t1 t2 (cZ.mp t3).1 ?_);refine Jp hfr (hl.of_keeps fun b o e nf=>⟨o,?_,rfl⟩) hf (EV r.e ne) fun h' T' r' k2 n=>h h' T' r' (k1.trans (k2.mono (by simp))) ?_
 . by_cases z:b=T
   . subst z;rw [t1] at e;cases e;exact absurd t2 (nf ts)
   . rw [cT _ _ (Ne.symm z)];exact e
 . cases q:s.heap.get? T' with
   | none=>rfl
   | some o =>
     obtain ⟨o',z⟩:=k1.there T' o q;rw [z] at n;cases n
theorem PJ (hfr:A.frames=some (env::outer)) (hl:s.heap.FunFrames base (env::outer)) (hf:env.frame=some L) (r:rY s.heap ea cls od .none)
   (h:∀ h' T',Err h' ea T' cls od .none->Kept (frs (env::outer)) [ea] s.heap h'->s.heap.get? T'=none->Q () { s with heap:=h' }):wpAny M A (leaving env (.ref ea)) Q E s:=by
 unfold leaving;refine aj (Te hfr hl hf r fun h1 T1 r1 k1 n1=>Nh (fs:=frs (env::outer)) (s:={ s with heap:=h1 }) r1 fun h2 r2 k2=>h h2 T1 r2 ⟨fun b o e f x=>k2.keep b o (k1.keep b o e f x) f ?_,fun b o e f x=>?_,fun b o e=>?_⟩ n1)
 . simp only [aB];rintro rfl;rw [n1] at e;cases e
 . obtain ⟨s1,e1⟩:=k1.slot b o e f x;obtain ⟨s2,e2⟩:=k2.slot b _ e1 f (by
     simp only [aB];rintro rfl;rw [n1] at e;cases e)
   exact ⟨s2,e2⟩
 . obtain ⟨o1,e1⟩:=k1.there b o e;exact k2.there b o1 e1
theorem Tw (hfr:A.frames=some (env::outer)) (hl:s.heap.FunFrames base (env::outer)) (hf:env.frame=some L) (r:Err s.heap ea T cls od .none)
   (h:∀ h' T',Err h' ea T' cls od .none->Kept (frs (env::outer)) [ea,T] s.heap h'->s.heap.get? T'=none->Q () { s with heap:=h' }):wpAny M A (leaving env (.ref ea)) Q E s:=by
 unfold leaving;refine aj (Up hfr hl hf r fun h1 T1 r1 k1 n1=>Nh (fs:=frs (env::outer)) (s:={ s with heap:=h1 }) r1 fun h2 r2 k2=>h h2 T1 r2 ⟨fun b o e f x=>k2.keep b o (k1.keep b o e f x) f ?_,fun b o e f x=>?_,fun b o e=>?_⟩ n1)
 . simp only [aB];rintro rfl;rw [n1] at e;cases e
 . obtain ⟨s1,e1⟩:=k1.slot b o e f x;obtain ⟨s2,e2⟩:=k2.slot b _ e1 f (by
     simp only [aB];rintro rfl;rw [n1] at e;cases e)
   exact ⟨s2,e2⟩
 . obtain ⟨o1,e1⟩:=k1.there b o e;exact k2.there b o1 e1
end
def CXe (P:Program) (w:World):CXT:=fun outer H s E e s'=>∃ (ea T:Addr) (cls:Value) (od:Option Addr) (H':Hp),e=.ref ea/\s'.os=s.os/\AllBare s'.gens/\Un (frs outer) [] H H' s.heap s'.heap/\HOk P w H' s'.heap /\
 H' ea=none/\H' T=none/\s.heap.get? ea=none/\s.heap.get? T=none/\Err s'.heap ea T cls od .none/\E cls od H'
theorem ce {P:Program} {w:World}:cR (CXe P w):=fun outer H s e s' h=>by
 obtain ⟨_,_,_,_,_,_,_,_,_,_,_,_,_,_,_,z⟩:=h;exact z
theorem J8 {P:Program} {w:World} {H:Hp} {h h':Heap} {fs xs:List Addr} (x:HOk P w H h) (k:Kept fs xs h h') (f:∀ b∈fs,H b=none) (u:∀ b∈xs,H b=none):HOk P w H h':=fun a o e=>by
 refine (x a o e).stay (fun b ob hb q=>k.keep b ob q ?_ ?_) (fun _ q=>q) fun _ _ q=>q
 . intro z;rcases hb with rfl|hb
   . rw [f _ z] at e;cases e
   . rw [f _ z] at hb;cases hb
 . intro z;rcases hb with rfl|hb
   . rw [u _ z] at e;cases e
   . rw [u _ z] at hb;cases hb
theorem O3 {P:Program} {w:World} {H:Hp} {h:Heap} {b:Addr} (x:HOk P w H h) (n:h.get? b=none):H b=none:=by
 cases q:H b with
 | none=>rfl
 | some o =>
   have lt:=x.lt q;cases z:h.get? b with
   | some o'=>rw [z] at n;cases n
   | none =>
     exfalso
     have:=(x b o q);cases o with
     | lst xs=>obtain ⟨_,_,_,_,e⟩:=this;rw [n] at e;cases e
     | tup xs=>obtain ⟨_,_,_,ob,e,_⟩:=this;rw [n] at e;cases e
     | dK kvs=>obtain ⟨_,_,_,_,ob,_,_,e,_⟩:=this;rw [n] at e;cases e
     | dT kvs=>obtain ⟨_,_,_,_,ob,_,_,e,_⟩:=this;rw [n] at e;cases e
     | set S m=>obtain ⟨ob,_,_,_,e,_⟩:=this;rw [n] at e;cases e
     | ins C dx fs=>obtain ⟨_,_,_,e,_⟩:=this;rw [n] at e;cases e
     | own y=>obtain ⟨_,e⟩:=this;rw [n] at e;cases e
     | xd fs=>obtain ⟨_,⟨_,_,_,e,_⟩,_⟩:=this;rw [n] at e;cases e
     | rng lo hi=>obtain ⟨_,_,_,e⟩:=this;rw [n] at e;cases e
     | frz ob u=>obtain ⟨e,_⟩:=this;rw [n] at e;cases e
     | tbl ps=>have e:h.get? b=some _:=this;rw [n] at e;cases e
     | met f y=>have e:h.get? b=some _:=this;rw [n] at e;cases e
     | ext φ=>obtain ⟨_,⟨_,e⟩,_⟩:=this;rw [n] at e;cases e
section
variable {P:Program} {w:World} {K:PySem.W.Frag} {mg:Str->Option Value} {base:Heap} {N:List Str} {qual:Str} {scope:Scope} {f:Addr} {cd:Value} {A:Around} {outer:List Env} {s:Shared} {H:Hp} {E:XK}
theorem JR {CX:CXT} {pins:List (Addr × Obj)} {σ:St} {H':Hp} {s':Shared} {h':Heap} {xs:List Addr} (J:Inv (ux CX P w K mg base N qual scope f cd A outer s H E) pins σ H' s') (k:Kept (frs (envOfC qual scope s.heap.objs.size f cd::outer)) xs s'.heap h') (nx:∀ b∈xs,s.heap.get? b=none) :
   Un (frs outer) [] H H' s.heap h':=by
 have b0:Un (frs outer) [] H H' s.heap s'.heap:=J.base;have nl:∀ b o,s.heap.get? b=some o->b ∉ xs:=fun b o e z=>by rw [nx b z] at e;cases e
 have nf:∀ b o,s.heap.get? b=some o->b ∉ frs outer->b ∉ frs (envOfC qual scope s.heap.objs.size f cd::outer):=fun b o e z m=>by
   unfold frs at m z;rw [bZ] at m;have:(envOfC qual scope s.heap.objs.size f cd).frame=some s.heap.objs.size:=rfl;rw [this] at m;rcases az.mp m with m|m
   . exact absurd (aG e) (by rw [m];exact dy _)
   . exact z m
 refine ⟨fun b o e n hf hx=>k.keep b o (b0.keep b o e n hf hx) (nf b o e hf) (nl b o e),fun b o e n hf hx=>?_,b0.free,fun b o e hx=>?_,b0.tups,b0.frzs,b0.tbls⟩
 . obtain ⟨sl,e1⟩:=b0.slot b o e n hf hx;by_cases m:b∈frs (envOfC qual scope s.heap.objs.size f cd::outer)
   . obtain ⟨s2,e2⟩:=k.slot b _ e1 m (nl b o e);exact ⟨s2,e2⟩
   . exact ⟨sl,k.keep b _ e1 m (nl b o e)⟩
 . obtain ⟨o1,e1⟩:=b0.there b o e hx;exact k.there b o1 e1
theorem sW {CX:CXT} {pins:List (Addr × Obj)} {σ:St} {H':Hp} {s':Shared} (J:Inv (ux CX P w K mg base N qual scope f cd A outer s H E) pins σ H' s') {b:Addr} (n:s'.heap.get? b=none):s.heap.get? b=none:=by
 cases q:s.heap.get? b with
 | none=>rfl
 | some o =>
   have b0:Un (frs outer) [] H H' s.heap s'.heap:=J.base;obtain ⟨o',e⟩:=b0.there b o q (by simp);rw [n] at e;cases e
theorem gk:yS (CXe P w) (ux (CXe P w) P w K mg base N qual scope f cd A outer s H E) E:=by
 intro pins σ H1 s1 e s' I h;obtain ⟨ea,T,cls,od,H',rfl,os,bare,un,hok,n1,n2,f1,f2,er,q⟩:=h;have J:=I.call' (ch:=[]) os un hok bare (by simp);refine Tw (base:=base) J.ok.frames J.stack rfl er fun h' T' er' k nT=>?_;have fr:∀ b∈frs (envOfC qual scope s.heap.objs.size f cd::outer),H' b=none:=J.stkFree;refine ⟨ea,T',cls,od,H',rfl,J.os,J.bare,JR J k ?_,J8 hok k fr ?_,n1,O3 hok nT,sW I f1,sW J nT,er',q⟩
 . intro b hb;simp only [az,kE,or_false] at hb;rcases hb with rfl|rfl
   . exact sW I f1
   . exact sW I f2
 . intro b hb;simp only [az,kE,or_false] at hb;rcases hb with rfl|rfl
   . exact n1
   . exact n2
end
def Py (X:Cx) (E:XK):Prop:=∀ (pins:List (Addr × Obj)) (σ:St) (H:Hp) (s:Shared) (ea:Addr) (cls:Value) (od:Option Addr) (h':Heap) (tk:Nat),Inv X pins σ H s->(∀ b o,s.heap.get? b=some o->h'.get? b=some o)->s.heap.get? ea=none->rY h' ea cls od .none->E cls od H ->
 X.xe (.ref ea) { s with heap:=h',toks:=tk }
section
variable {P:Program} {w:World} {K:PySem.W.Frag} {mg:Str->Option Value} {base:Heap} {N:List Str} {qual:Str} {scope:Scope} {f:Addr} {cd:Value} {A:Around} {outer:List Env} {s:Shared} {H:Hp} {E:XK}
theorem Cu:Py (ux (CXe P w) P w K mg base N qual scope f cd A outer s H E) E:=by
 intro pins σ H1 s1 ea cls od h' tk I kp nw er q;have J:=I.kept (t':=tk) kp;refine PJ (base:=base) J.ok.frames J.stack rfl er fun h2 T' er' k nT=>?_;have fr:∀ b∈frs (envOfC qual scope s.heap.objs.size f cd::outer),H1 b=none:=J.stkFree;refine ⟨ea,T',cls,od,H1,rfl,J.os,J.bare,JR J k ?_,J8 J.hok k fr ?_,O3 I.hok nw,O3 J.hok nT,sW I nw,sW J nT,er',q⟩
 . intro b hb;rw [aB.mp hb];exact sW I nw
 . intro b hb;rw [aB.mp hb];exact O3 I.hok nw
end
end L2
namespace L2
open PySem PySem.Spec PyProof.Rows
def FW (K:PySem.W.Frag) (C:Addr):Prop:=∃ (nm qn:Str) (N:Addr) (bs bm:List Value) (hdct:Bool) (sn:List Str) (sub:List Value) (ab:Bool) (col:Option Bool) (dd:Option Addr) (k0 k1 k2 k3 k5:Option Value),
   K.lookup C=some (excClassObj nm qn C N bs bm hdct sn sub ab col dd k0 k1 k2 k3 k5 "ValueError.__new__")/\PySem.W.nsOkIn K N=true/\PySem.W.nsIn K N "__init__"=some none/\PySem.W.tailIn K bmV bm=true
theorem CG {K:PySem.W.Frag} {C:Addr} {o:Obj} (nm qn:Str) (N:Addr) (bs bm:List Value) (hdct:Bool) (sn:List Str) (sub:List Value) (ab:Bool) (col:Option Bool) (dd:Option Addr) (k0 k1 k2 k3 k5:Option Value) (l:K.lookup C=some o)
   (e:o=excClassObj nm qn C N bs bm hdct sn sub ab col dd k0 k1 k2 k3 k5 "ValueError.__new__") (a:PySem.W.nsOkIn K N=true) (b:PySem.W.nsIn K N "__init__"=some none) (c:PySem.W.tailIn K bmV bm=true):FW K C:=by
 subst e;exact ⟨_,_,_,_,_,_,_,_,_,_,_,_,_,_,_,_,l,a,b,c⟩
def QA (C:Addr) (E:XK) (t:TA):TS:=fun _ σ H=>t σ H fun vs H1=>vs.length<=sizeLine/\E (.ref C) none H1
section
variable {X:Cx} {x:Str} {np cpos pos:Pos} {e0:Expr} {es:List Expr} {t:TA} {C:Addr} {E:XK}
theorem zv (q:FW X.K C) (hc:X.calm=true) (hR:Py X E) (hg:Gl X x) (hm:X.mg x=some (.ref C)) (ha:PA X (e0::es) t) (hdb:(x == ("__debug__":Str))=false:=by decide)
   (he:starEach (e0::es) X.env=(false,eval e0 X.env)::starEach es X.env:=by rfl) (hpl:(backTo cpos (starEach es X.env)).any (·.1)=false:=by rfl):PS X (.Raise (some (.Call (.Name x np) (e0::es) [] cpos)) none pos) (QA C E t):=by
 intro pins s σ H D I h;obtain ⟨nm,qn,N,bs,bm,hdct,sn,sub,ab,col,dd,k0,k1,k2,k3,k5,ho,z5,z6,z4⟩:=q;have B:=I.mod.kin;have T0:=PySem.W.tail_of_in B z4;have N0:X.base.Ns N (X.base.nsMap N):=.of_isNs (PySem.W.isNs_of_in B z5);have hp:(backTo cpos (starEach (e0::es) X.env)).any (·.1)=false:=by
   rw [he];show (false || (backTo cpos (starEach es X.env)).any (·.1))=false;rw [hpl]
   rfl
 refine wpAny_Raise_call_subT (C:=C) (nm:=nm) (q:=qn) (N:=N) (bs:=bs) (bm:=bm) (hdct:=hdct) (sn:=sn) (sub:=sub) (ab:=ab) (col:=col) (dd:=dd) (k0:=k0) (k1:=k1) (k2:=k2) (k3:=k3) (k5:=k5) PySem.F.excBase_ValueError
   (T0.hasType (by decide +kernel)) (I.ok.hd hc) hp (PySem.W.nsMap_none_of_in B z5 z6) (CD I hg hm ⟨rfl,?_⟩ hdb)
 have g:=ha cpos pins s σ H _ I h;rw [he] at g ⊢;refine Calls.evalArgs_plain (thn g fun us s1 ⟨vs,H1,I1,r1,q1⟩=>⟨rfl,by show us.length<=_;rw [<- r1.length];exact q1.1,I1.bk _ _ (B _ _ ho),N0.keeps I1.bk,T0.keeps I1.bk,fun h' ea m=>?_⟩);obtain ⟨tt,m1,_,_⟩:=m.there;exact hR pins σ H1 s1 ea (.ref C) none h' s1.toks I1 m.keeps m.new ⟨_,_,m1,rfl,rfl,rfl,rfl,rfl⟩ q1.2
end
end L2
namespace L2
open PySem PySem.Spec PyProof.Rows
def ExO (ea:Addr) (cls:Value) (od:Option Addr):HO:=.ext fun h=>∃ oe vs,h.get? ea=some oe/\oe.cls=cls/\oe.dict=od/\oe.data=.fields vs/\vs[2]?=some .none
abbrev TH:=Ends->St->Value->Option Addr->Hp->Prop
def Ends.less (D:Ends) (i:Nat):Ends:={ nx:=fun σ H=>D.nx (σ.set i none) H,rt:=D.rt,bk:=fun σ H=>D.bk (σ.set i none) H,ct:=fun σ H=>D.ct (σ.set i none) H }
def Wu (K:PySem.W.Frag) (C':Addr) (i:Nat) (ts:TS) (tr:TH):TH:=fun D σ cls od H=>∃ C b,cls=.ref C/\PySem.W.mroIn K C (.ref C')=some b /\
 if b=true then ∀ ea,H ea=none->ts (D.less i) (σ.set i (some (.ref ea))) (upd H ea (ExO ea cls od)) else tr D σ cls od H
section
variable {X:Cx} {x n:Str} {np pos:Pos} {i:Nat} {C':Addr} {b0:Stmt} {suite:List Stmt} {jT:List ExceptHandler} {ts:TS} {tr:TH}
def WE (tb:(St->XK)->TS) (th:TH):TS:=fun D σ H=>tb (fun σ' cls od H'=>th D σ' cls od H') D σ H
end
end L2
namespace L2
open PySem PySem.Spec PyProof.Rows
def xn (cells:List (Str × Addr)):List (Str × NameKind)->List (Str × Addr)->List (Str × Addr)
 | [],acc=>acc
 | (n,k)::r,acc=>if k == .free then xn cells r ((n,(cells.lookup n).getD 0)::acc) else xn cells r acc
theorem OW {scope:Scope} {env:Env} (h:∀ y∈scope.names,y.2=.free->(env.cells.lookup y.1).isSome=true):closureFor scope env=pure (xn env.cells scope.names []):=by
 have key:∀ (l:List (Str × NameKind)) (acc:List (Str × Addr)),(∀ y∈l,y.2=.free->(env.cells.lookup y.1).isSome=true) ->
     (forIn l acc fun (y:Str × NameKind) (c:List (Str × Addr))=>(if y.2 == NameKind.free then do let a <- cellOf env y.1;pure (ForInStep.yield ((y.1,a)::c)) else pure (ForInStep.yield c):Sem (ForInStep (List (Str × Addr)))))=(pure (xn env.cells l acc):Sem (List (Str × Addr))):=by
   intro l
   induction l with
   | nil=>intro acc _;rfl
   | cons y l ih =>
     obtain ⟨n,k⟩:=y;intro acc hh;have h1:=hh (n,k) aw;have h2:∀ y∈l,y.2=.free->(env.cells.lookup y.1).isSome=true:=fun y hy=>hh y (ak _ hy);rw [List.forIn_cons];unfold xn;cases q:k == NameKind.free with
     | false =>
       simp only [dU,if_false,pure_bind];exact ih acc h2
     | true =>
       obtain ⟨c,hc⟩:=dN.mp (h1 (by simpa using q));dsimp only at hc;simp only [if_true,cellOf,hc,pure_bind,Option.getD_some];exact ih _ h2
 have:=key scope.names [] h;unfold closureFor;simp only [bind_pure];exact this
theorem D4 {cells:List (Str × Addr)} {x:Str} {c:Addr}:∀ {l:List (Str × NameKind)} {acc:List (Str × Addr)},(∀ y∈l,y.2=.free->(cells.lookup y.1).isSome=true)->(∀ x c,acc.lookup x=some c->cells.lookup x=some c)->(xn cells l acc).lookup x=some c->cells.lookup x=some c
 | [],acc,_,h2,h3=>h2 x c h3
 | (n,k)::r,acc,h1,h2,h3=>by
   have h1':∀ y∈r,y.2=.free->(cells.lookup y.1).isSome=true:=fun y hy=>h1 y (ak _ hy);unfold xn at h3;cases q:k == NameKind.free with
   | false =>
     rw [q] at h3;exact D4 h1' h2 (by simpa using h3)
   | true =>
     rw [q] at h3;simp only [if_true] at h3;obtain ⟨a,ha⟩:=dN.mp (h1 (n,k) aw (by simpa using q));dsimp only at ha;rw [ha] at h3;refine D4 h1' (fun y d hy=>?_) h3;rw [bS] at hy;cases z:y == n with
     | true =>
       rw [z] at hy;cases hy;rw [eq_of_beq z];exact ha
     | false =>
       rw [z] at hy;exact h2 y d hy
theorem DY {cells:List (Str × Addr)} {x:Str}:∀ {l:List (Str × NameKind)} {acc:List (Str × Addr)},((∃ c,acc.lookup x=some c)\/(x,NameKind.free)∈l)->∃ c,(xn cells l acc).lookup x=some c
 | [],acc,h=>by
   rcases h with h|h
   . exact h
   . cases h
 | (n,k)::r,acc,h=>by
   unfold xn;cases q:k == NameKind.free with
   | false =>
     simp only [dU,if_false];refine DY ?_;rcases h with h|h
     . exact .inl h
     . rcases az.mp h with z|z
       . cases z;simp at q
       . exact .inr z
   | true =>
     simp only [if_true];refine DY ?_;by_cases z:x=n
     . subst z;exact .inl ⟨(cells.lookup x).getD 0,by rw [bS];simp⟩
     . rcases h with ⟨c,h⟩|h
       . refine .inl ⟨c,?_⟩;rw [bS];have:(x == n)=false:=(by simpa using z);rw [this];exact h
       . rcases az.mp h with y|y
         . cases y;exact absurd rfl z
         . exact .inr y
theorem tp {env:Env} {x:Str} {k:NameKind}:∀ {l:List (Str × NameKind)},l.lookup x=some k ->
   (l.map fun (n,k)=>if (k == NameKind.free && env.scope.kind == .function && env.kindOf n == some .cell) then (n,NameKind.cell) else (n,k)).lookup x=some (if (k == NameKind.free && env.scope.kind == .function && env.kindOf x == some .cell) then NameKind.cell else k)
 | [],h=>by simp at h
 | (n,j)::r,h=>by
   have ih:=@tp env x k r;rw [aK];rw [bS] at h;cases z:x == n with
   | true =>
     rw [z] at h;cases h;have e:=eq_of_beq z;subst e;by_cases q:(k == NameKind.free && env.scope.kind == .function && env.kindOf x == some .cell)=true
     . simp only [q,if_true,bS,z]
     . simp only [q,if_false,bS,z,dU]
   | false =>
     rw [z] at h;dsimp only;by_cases q:(j == NameKind.free && env.scope.kind == .function && env.kindOf n == some .cell)=true
     . rw [ag q,bS,z];exact ih h
     . rw [aa q,bS,z];exact ih h
theorem tG {X:Cx} {Nc:List Str} {scope:Scope} (own:Nat) (js:List Nat) (hc:∀ y∈scope.names,y.2≠.cell) (hk:scope.kind=.function) (hn:∀ y∈scope.names,y.2=.local->scope.names.lookup y.1=some .local) (hl:Nc.length=own+js.length)
   (hf:∀ y∈scope.names,y.2=.free->X.env.scope.names.lookup y.1=some .cell) (hX:X.env.scope.kind=.function) (hcell:∀ x,X.env.scope.names.lookup x=some .cell->∃ c,X.env.cells.lookup x=some c)
   (hU:∀ i,i<js.length->∃ x j,Nc[own+i]?=some x/\js[i]?=some j/\X.N[j]?=some x/\scope.names.lookup x=some .free):CompTxt X Nc own js scope (xn X.env.cells scope.names []):=by
 have hs:∀ y∈scope.names,y.2=.free->(X.env.cells.lookup y.1).isSome=true:=fun y hy e=>by
   obtain ⟨c,q⟩:=hcell _ (hf y hy e);rw [q]
   rfl
 have free_cell:∀ x,scope.names.lookup x=some .free->X.env.scope.names.lookup x=some .cell:=fun x h=>hf (x,.free) (cK h) rfl;refine ⟨OW hs,hk,hc,hn,fun x c h=>D4 hs (fun x c z=>by simp at z) h,fun x h=>?_,hl,fun i x h=>?_⟩
 . cases q:scope.names.lookup x with
   | none =>
     exfalso
     have:(relabel scope X.env).names.lookup x=none:=by
       unfold relabel;dsimp only
       revert q
       generalize scope.names=l
       induction l with
       | nil=>intro _;rfl
       | cons y l ih =>
         obtain ⟨n,k⟩:=y;intro q;rw [bS] at q;cases z:x == n with
         | true=>rw [z] at q;cases q
         | false =>
           rw [z] at q;rw [aK];dsimp only;by_cases w:(k == NameKind.free && X.env.scope.kind == .function && X.env.kindOf n == some .cell)=true
           . rw [ag w,bS,z];exact ih q
           . rw [aa w,bS,z];exact ih q
     rw [this] at h;rcases h with h|h <;> cases h
   | some k =>
     have r:(relabel scope X.env).names.lookup x=some _:=tp (env:=X.env) q;cases k with
     | free=>exact DY (.inr (cK q))
     | cell=>exact absurd rfl (hc _ (cK q))
     | _ =>
       rw [r] at h;simp at h
 . have hi:i<js.length:=by
     have:=(aq.mp h).1;omega
   obtain ⟨y,j,e1,e2,e3,e4⟩:=hU i hi;rw [h] at e1;cases e1;have fc:=free_cell x e4;refine ⟨j,e2,e3,fc,?_⟩;have r:(relabel scope X.env).names.lookup x=some _:=tp (env:=X.env) e4;rw [r];have:X.env.kindOf x=some .cell:=fc;rw [this,hX]
   rfl
end L2
namespace L2
open PySem PySem.Spec PyProof.Rows
theorem Nj:∀ {ns:List Int} {us:List Value},Vals (ns.map V.int) us->IntsAre us ns
 | [],_,h=>by cases h;exact .nil
 | n::ns,_,h=>by
   cases h with
   | cons r t =>
     obtain ⟨k,rfl⟩:=(show ∃ t,_=Value.int n t from r);exact .cons n k (Nj t)
theorem Nf:∀ {ns:List Int} {us:List Value},IntsAre us ns->Vals (ns.map V.int) us
 | _,_,.nil=>.nil
 | _,_,.cons n t r=>.cons ⟨t,rfl⟩ (Nf r)
section
variable {X:Cx}
theorem L1:qb X (.builtin "sorted") (fun xs H Q=>∃ (p:Addr) (ns:List Int),xs=[.ref p]/\SqL X.K H p (ns.map V.int)/\ns.length<64/\∀ (l:Addr) (zs:List Int),H l=none->zs.Perm ns->zs.Pairwise (·<=·)->Q (.ref l) (upd H l (.lst (zs.map V.int)))):=by
 intro pins s σ H xs us Q I r h;obtain ⟨p,ns,rfl,hp,h64,q⟩:=h;obtain ⟨u,rfl,ru⟩:=wK r;cases ru;obtain ⟨its,rv,pl,hz⟩:=I.list hp;have hi:=Nj rv;have e1:=IntsAre.length hi;refine sorted_ints pl.isList hi (by omega) fun out zs a1 a2 a3=>?_;obtain ⟨e,he⟩:=sortedAll_at s.heap its out;have hn:H (s.heap.objs.size+1)=none:=I.hok.fresh (iP _);have ln:zs.length=ns.length:=a2.length_eq;refine ⟨.ref (s.heap.objs.size+1),_,I.laid (a:=s.heap.objs.size+1) (o:=.lst (zs.map V.int)) (t':=s.toks) (fun b o e=>sortedAll_old e) (iP _) ⟨?_,out.toList,e,Nf a1,?_⟩,rfl,q _ zs hn a2 a3⟩
 . rw [ai,ln];exact cu (by omega)
 . exact he
end
section
variable {P:Program} {w:World} {K:PySem.W.Frag} {mg:Str->Option Value} {base:Heap}
theorem Fun.okX {x qual:Str} {st:Stmt} {f:Addr} {fd:FuncData} {N ps:List Str} {k:Nat} {sp:Sp} (F:Fun K x qual st f fd) (S:FnScope N ps (ae st)) (len:∀ vs H Q E,sp vs H Q E->vs.length=ps.length)
   (hbody:∀ (cdv:Value) (A:Around) (outer:List Env) (s:Shared) (H:Hp) (vs:List V) (Q:VK) (E:XK),Room k (A.deeper (envOfC qual (ae st) s.heap.objs.size f cdv))->sp vs H Q E ->
     ∃ t,PSs (ux (CXe P w) P w K mg base N qual (ae st) f cdv A outer s H E) (bw st) t/\t { nx:=fun _ H'=>Q .non H',rt:=Q } (start N vs) H):FnOk P w K mg base (CXe P w) (k+1) f fd ps sp:=by
 obtain ⟨oc,od,kV,doc,pm,an,cdv,ct,osl,rfl,lk,hcd⟩:=F.ex;exact TL lk hcd S len fun A outer s H vs Q E hr hsp=>hbody cdv A outer s H vs Q E hr hsp
end
theorem GJ {C:Addr} {E:XK} {t:TA} {D:Ends} {σ:St} {H:Hp}:QA C E t D σ H=t σ H fun vs H1=>vs.length<=sizeLine/\E (.ref C) none H1:=rfl
theorem Nb {tb:(St->XK)->TS} {th:TH} {D:Ends} {σ:St} {H:Hp}:WE tb th D σ H=tb (fun σ' cls od H'=>th D σ' cls od H') D σ H:=rfl
theorem KG {K:PySem.W.Frag} {C':Addr} {i:Nat} {ts:TS} {tr:TH} {D:Ends} {σ:St} {cls:Value} {od:Option Addr} {H:Hp}:Wu K C' i ts tr D σ cls od H=∃ C b,cls=.ref C/\PySem.W.mroIn K C (.ref C')=some b /\
 if b=true then ∀ ea,H ea=none->ts (D.less i) (σ.set i (some (.ref ea))) (upd H ea (ExO ea cls od)) else tr D σ cls od H:=rfl
theorem WO {H:Hp} {l b:Addr} {xs zs:List V} {Q:VK} (h1:H l=some (.lst xs)) (h2:H b=some (.lst zs)) (hz:xs.length+zs.length<=sizeLine) (q:∀ p,H p=none->Q (.ref p) (upd H p (.lst (xs++zs)))):rCat (.ref l) (.ref b) H Q:=⟨l,b,xs,zs,rfl,rfl,h1,h2,hz,q⟩
theorem Same.put {H H':Hp} {l:Addr} (e:Same H H') (n:H l=none) (o:HO):Same H (upd H' l o):=fun b u h=>by rw [aX (dw h n)];exact e b u h
end L2
namespace L2
open PySem PySem.Spec PyProof.Rows
theorem R4 {M:Model} {A:Around} {E:Value->Shared->Prop} {s:Shared} {env:Env} {x:Str} {px:Pos} {v:Value} {Q:Unit->Shared->Prop} (h:wpAny M A (storeName env x v) Q E s):wpAny M A (assign (.Name x px) env v) Q E s:=by
 show wpAny M A (do standAt px;bindName env x v) Q E s;exact aj (jv (wpAny_bindName h))
section
variable {X:Cx} {Nc:List Str} {own:Nat} {js:List Nat} {scope:Scope} {cl:List (Str × Addr)}
theorem Aa {i:Nat} {x:Str} {px pos:Pos} {elt target iter:Expr} {ifs:List Expr} {cpos:Pos} {wi:TI} {g:TG} {tc:TT} {te:TE} (hN:X.N.Nodup) (hxi:X.N[i]?=some x) (hxl:X.env.scope.names.lookup x=some .local) (hc:X.calm=true) (T:CompTxt X Nc own js scope cl)
   (hi:PI X target iter wi) (hg:∀ C s₂ H₁ fp,PG (X.comp Nc scope cl C s₂ H₁ fp) target g) (ht:∀ C s₂ H₁ fp,PTs (X.comp Nc scope cl C s₂ H₁ fp) ifs tc)
   (he:∀ C s₂ H₁ fp,PE (X.comp Nc scope cl C s₂ H₁ fp) elt te) (hs:∀ x,foldedSetIterable iter X.env x=pure x:=by intro _;rfl)
   (hsw:swapsWith (.ListComp elt [⟨target,iter,ifs,0⟩] scope cpos) (some (.Name x px)) pos.line X.env=pure true:=by rfl) :
   PS X (.Assign [.Name x px] (.ListComp elt [⟨target,iter,ifs,0⟩] scope cpos) pos) (K7 (O4 own js wi g tc te) (ES i)):=by
 intro pins s σ H D I h;rw [exec_Assign_Name_used _ _ _ _ hsw];refine aj (jv (aj ?_));rw [arm_evalThenUse_ListComp];refine aj ?_;refine wpAny_comprehension_free (use:=some (assign (.Name x px) X.env)) rfl hs T.clos T.kind T.names (thn (hi pins s σ H _ I h) fun v s1 h1=>thn h1 fun itv s2 h2=>?_);obtain ⟨it,fp,tn,J,H1,rfl,I1,Tn,st,f1,R⟩:=h2;have hfp:∀ b∈fp,b<s2.heap.objs.size:=fun b hb=>let ⟨o,e,_⟩:=Tn.obj _ _ st b hb;aG e;refine gW (wpAny_newFunctionEnv T.nocell (by intro y hy;simp at hy) (fun h₁ hns₁ hsb₁=>?_) T.kind);dsimp only at hns₁ hsb₁ ⊢;generalize hH2:s2.heap.push { cls:=.type "list",dict:=none,data:=.seq ([]:List Value).toArray }=H2 at hns₁ hsb₁ ⊢;have hC:H2.objs.size=s2.heap.objs.size+1:=by rw [<- hH2,jA]
 have hDC:s2.heap.objs.size≠H2.objs.size:=by rw [hC];exact aO (eJ _)
 have hCle:s2.heap.objs.size<=H2.objs.size:=by rw [hC];exact iP _
 have below:∀ b,b<s2.heap.objs.size->b≠H2.objs.size:=fun b hb=>by rw [hC];exact aO (jQ hb)
 have old:∀ b o,s2.heap.get? b=some o->h₁.get? b=some o:=fun b o e=>hsb₁.extBut b o (below b (aG e)) (aJ _ (hH2 ▸ aJ _ e));have hacc:∃ n,h₁.get? s2.heap.objs.size=some { cls:=.type "list",data:=.seq ([]:List Value).toArray n }:=⟨_,hsb₁.extBut _ _ hDC (aJ _ (hH2 ▸ bg _ rfl))⟩;have st₁:tn 0 h₁:=Tn.keep _ _ _ st fun b _ o e=>old b o e;obtain ⟨W,⟨m0,w0⟩,turn⟩:=R s2.heap.objs.size I1.fresh;have Ic:=K4 (t:=s2.toks+([]:List (Str × Value)).length) T I1 hCle (aI _) hDC f1 hfp old hns₁ hacc;generalize hXc:X.comp Nc scope cl H2.objs.size s2 H1 fp=Xc at Ic;have stat:∀ {H':Hp},(∀ b∈fp,H' b=none)->∀ b∈fp,vy Xc [] H' b:=fun {H'} hn b hb=>by
   subst hXc;exact ⟨hn b hb,below b (hfp b hb),(FX T I1 hCle f1 hfp).exfs b hb,.inl hb,fun x c e=>(f1 b hb).2.2.2.2.1 x c (T.cells x c e),fun p hp=>by cases hp⟩
 have fr0:∀ b∈fp,upd H1 s2.heap.objs.size (.lst []) b=none:=fun b hb=>by
   rw [aX (aO (hfp b hb))];exact (f1 b hb).1
 have calmc:Xc.calm=true:=by subst hXc;exact hc
 have loop:∀ s₃:Shared,s₃={ s2 with heap:=h₁,toks:=s2.toks+([]:List (Str × Value)).length } ->
     codeAny (model X.prog X.w) X.A (.compLoop (.ListComp elt [⟨target,iter,ifs,0⟩] scope cpos) 0 (.ref it) (.ref s2.heap.objs.size) (compEnvC scope cl H2.objs.size X.env))
       (compPost (model X.prog X.w) X.A X.xe (some (assign (.Name x px) X.env)) (fun _ s'=>wpAny (model X.prog X.w) X.A (pure ()) (fun _ s''=>wpAny (model X.prog X.w) X.A (pure Flow.next) (SP X pins D) X.xe s'') X.xe s') (.ref s2.heap.objs.size) H2.objs.size) s₃:=by
   rintro s₃ rfl;refine Dp (fun n s'=>∃ i ys σ' H',Inv Xc [] σ' H' s'/\tn i s'.heap/\(∀ b∈fp,H' b=none)/\W i n ys σ' H') ?_ m0 ⟨0,[],_,_,Ic,st₁,fr0,w0⟩;rintro n s3 ⟨i,ys,σ3,H3,I3,st3,fr3,w3⟩;rcases turn i n ys σ3 H3 w3 with ⟨stop,q⟩|⟨go,step⟩
   . subst hXc;refine thn (Tn.done (X.comp Nc scope cl H2.objs.size s2 H1 fp) rfl rfl rfl hc i [] s3 σ3 H3 _ I3 (stat fr3) st3 stop) fun r s4 ⟨hr,I4⟩=>?_;subst hr;obtain ⟨m4,hn4,_⟩:=id I4.loc;have J:=Gu I1 hCle f1 I4 (h':=s4.heap) (Heap.SameBut.refl _ _);have cl0:H2.objs.size≠X.env.locals:=kg (aR I1.lt hCle);have cy:X.s₀.heap.objs.size<=H2.objs.size:=bq I1.sz hCle;have cc:∀ y c,X.env.cells.lookup y=some c->c≠H2.objs.size:=fun y c e=>by
       obtain ⟨v',o',ho',_⟩:=I1.cell y c e;exact aO (aR (aG ho') hCle)
     have cp:∀ p∈X.pn++pins,p.1≠H2.objs.size:=fun p hp=>by
       obtain ⟨ho',_⟩:=I1.pin p hp;exact aO (aR (aG ho') hCle)
     refine R4 (GW (v:=.ref s2.heap.objs.size) J hN hxi (.inl hxl) rfl (fun s5 I5 ⟨ad,sb,had⟩=>?_) (.inr hxl));have nad:H2.objs.size≠ad:=by
       rcases had with rfl|had
       . exact cl0
       . exact (cc _ _ had).symm
     obtain ⟨oo,es,ep,e1,e2⟩:=hn4;refine ⟨m4,⟨oo,es,ep,(sb.2 _ nad).trans e1,e2⟩,fun h' hs'=>ap (ap ⟨_,H3,?_,q⟩)⟩;exact I5.turned (it:=H2.objs.size) (t':=s5.toks) (fun b o n e=>hs'.extBut b o n e) I4.free cl0 (.inr cy) cc cp
   . subst hXc;refine thn (Tn.item (X.comp Nc scope cl H2.objs.size s2 H1 fp) rfl rfl rfl hc i [] s3 σ3 H3 _ I3 (stat fr3) st3 go) fun r s4 ⟨u,hr,h4⟩=>?_;subst hr;refine thn h4 fun _ s5 ⟨x,H5,I5,r5,y5,st5,fr5⟩=>?_;have I5':=I5.pinned (stat fr5) (Tn.obj _ _ st5);have back:∀ {σ7:St} {H7:Hp} {s7:Shared},Inv (X.comp Nc scope cl H2.objs.size s2 H1 fp) ([]++yW fp s5.heap) σ7 H7 s7->Inv (X.comp Nc scope cl H2.objs.size s2 H1 fp) [] σ7 H7 s7/\tn (i+1) s7.heap/\∀ b∈fp,H7 b=none:=fun {σ7 H7 s7} I7=>by
       refine ⟨I7.unpinned,Tn.keep _ _ _ st5 fun b hb o e=>(I7.pin (b,o) (aN _ (aN _ (pZ hb e)))).1,fun b hb=>?_⟩;obtain ⟨o,e,d⟩:=Tn.obj _ _ st5 b hb;exact (I7.pin (b,o) (aN _ (aN _ (pZ hb e)))).2.1
     refine thn (hg _ _ _ _ _ s5 σ3 H5 x u _ I5' r5 (step x H5 y5)) fun _ s6 ⟨σ6,H6,I6,q6⟩=>?_;refine Gi (ht _ _ _ _ _ s6 σ6 H6 _ I6 q6) fun ok s7 H7 I7 q7=>?_;cases ok with
     | false =>
       rw [aa aV] at q7 ⊢;obtain ⟨m',hm,w7⟩:=q7;obtain ⟨J1,J2,J3⟩:=back I7;exact ⟨m',hm,i+1,ys,σ6,H7,J1,J2,J3,w7⟩
     | true =>
       rw [ag rfl] at q7 ⊢;refine dB (he _ _ _ _ _ s7 σ6 H7 _ I7 q7) fun y s8 yv H8 I8 r8 ⟨hp8,hl8,m',hm,w8⟩=>?_;refine thn (fX _ s8 σ6 H8 (.ref s2.heap.objs.size) [yv] _ [y] (fun v' H'=>W (i+1) m' (ys++[yv]) σ6 H') I8 rfl (.cons r8 .nil) ⟨_,ys,yv,rfl,rfl,hp8,hl8,w8⟩) fun v9 s9 ⟨_,H9,I9,_,w9⟩=>?_;obtain ⟨J1,J2,J3⟩:=back I9;exact ⟨m',hm,i+1,ys++[yv],σ6,H9,J1,J2,J3,w9⟩
 exact codeAny_compStart_list (loop _ rfl) (Tn.self _ 0 _ _ _ st₁ (loop _ rfl))
end
end L2
namespace L2
open PySem PySem.Spec PyProof.Rows
theorem rK {K:PySem.W.Frag} {H:Hp}:∀ ns:List Int,DeepAll K H (ns.map V.int) (ns.map PyData.int)
 | []=>.nil
 | n::ns=>.cons (.int n) (rK ns)
theorem mR {K:PySem.W.Frag} {H:Hp} {l:Addr} {ns:List Int} (h:H l=some (.lst (ns.map V.int))):Deep K H (.ref l) (.list (ns.map PyData.int)):=.lst (SqL.of h) (rK ns)
theorem tW:∀ ns:List Int,PyData.eqvAll (ns.map PyData.int) (ns.map PyData.int)=true
 | []=>by simp [PyData.eqvAll]
 | n::ns=>by
   simp only [aK,PyData.eqvAll];rw [tW ns];simp [PyData.eqv]
theorem kO:∀ ns:List Int,PyData.depthAll (ns.map PyData.int)<=1
 | []=>by simp [PyData.depthAll]
 | n::ns=>by
   simp only [aK,PyData.depthAll];have:=kO ns;have:(PyData.int n).depth<=1:=by simp [PyData.depth]
   omega
end L2
namespace Pb
open L2 PySem
def front (r:Int) (par:Int->Int) (p:Int):V:=if p=r then .non else .int (par p)
def bA (m:Int) (rs:List Road) (fv:V) (p:Int):List Int:=(m9 m rs p).filter fun v=>decide (V.int v≠fv)
variable {m:Int} {rs:List Road} {r:Int} {par:Int->Int} {dep:Int->Nat}
theorem Rooted.ne (R:Rooted m rs r par dep) {v:Int} (h0:0<=v) (h1:v<m) (hr:v≠r):par v≠v:=fun z=>by
 have:=(R.up v h0 h1 hr).2.2;rw [z] at this;omega
theorem dQ (g:Good m rs) (R:Rooted m rs r par dep) {p v:Int} (p0:0<=p) (p1:p<m):v∈bA m rs (front r par p) p↔(0<=v/\v<m)/\v≠r/\par v=p:=by
 unfold bA;rw [bG,jS g,aU]
 constructor
 . rintro ⟨ad,hf⟩;obtain ⟨_,hv,_⟩:=g.adj ad;refine ⟨hv,?_⟩;obtain ⟨x,hx,j⟩:=ad;have key:∀ u w:Int,(u≠r/\par u=w)\/(w≠r/\par w=u)->u=p->w=v->v≠r/\par v=p:=fun u w h e1 e2=>by
     subst e1 e2;rcases h with h|h
     . exfalso
       apply hf;unfold front;rw [aa h.1,h.2]
     . exact h
   rcases j with ⟨a,b⟩|⟨a,b⟩
   . exact key x.a x.b (R.road x hx) a b
   . exact key x.b x.a (R.road x hx).symm a b
 . rintro ⟨hv,hr,hp⟩;have u:=R.up v hv.1 hv.2 hr;rw [hp] at u;refine ⟨?_,fun z=>?_⟩
   . obtain ⟨x,hx,j⟩:=u.2.1;exact ⟨x,hx,j.elim (fun q=>.inr ⟨q.2,q.1⟩) (fun q=>.inl ⟨q.2,q.1⟩)⟩
   . unfold front at z;by_cases c:p=r
     . rw [ag c] at z;cases z
     . rw [aa c] at z;have e:v=par p:=(by injection z);have w:=(R.up p p0 p1 c).2.2;have w2:=u.2.2;rw [<- e] at w;omega
theorem uX {fv:V} {p:Int}:(bA m rs fv p).Nodup:=(E5 m rs p).filter _
def nl (m:Int) (par:Int->Int) (ks:List Int):List V:=(below m.toNat).map fun v=>if v∈ks then .int (par v) else .non
def xN (m r:Int) (par:Int->Int):List V:=(below m.toNat).map (front r par)
theorem wU {ks:List Int}:(nl m par ks).length=m.toNat:=by unfold nl;rw [ai,dq]
theorem o9 {n i:Nat} (h:i<n):(below n)[i]?=some (i:Int):=by unfold below;rw [aP,jC h];rfl
theorem QT {ks:List Int} {v:Int} (h0:0<=v) (h1:v<m):(nl m par ks)[v.toNat]?=some (if v∈ks then .int (par v) else .non):=by
 unfold nl;rw [aP,o9 (by omega)];show some (if ((v.toNat:Nat):Int)∈ks then V.int (par ((v.toNat:Nat):Int)) else V.non)=_;rw [fm h0]
theorem Vf {ks:List Int} {v:Int} (h0:0<=v) (h1:v<m):(nl m par ks).set v.toNat (.int (par v))=nl m par (ks++[v]):=by
 refine kL fun i=>?_;rw [List.getElem?_set];by_cases c:i<m.toNat
 . have e:∀ l:List Int,(nl m par l)[i]?=some (if (i:Int)∈l then .int (par (i:Int)) else .non):=fun l=>by
     have:=QT (par:=par) (ks:=l) (v:=(i:Int)) (m:=m) (by omega) (by omega)
     rwa [dR] at this
   rw [e,wU];by_cases z:v.toNat=i
   . have z2:v=(i:Int):=(by omega);rw [ag z,ag (by omega),e,ag (by rw [z2];simp),<- z2]
   . rw [aa z,e];have z2:¬ ((i:Int)=v):=(by omega);simp [z2]
 . have e:∀ l:List Int,(nl m par l)[i]?=none:=fun l=>cG (by rw [wU];omega);rw [e,e,wU];by_cases z:v.toNat=i
   . omega
   . rw [aa z]
structure AInv (m:Int) (rs:List Road) (r:Int) (par:Int->Int) (ks ws:List Int):Prop where
 nd:ks.Nodup
 rng:∀ k∈ks,0<=k/\k<m
 nr:r ∉ ks
 sub:∀ w∈ws,w=r\/w∈ks
 wnd:ws.Nodup
 ok:∀ v∈ks,par v ∉ ws/\(par v=r\/par v∈ks)
 dn:∀ v,0<=v->v<m->v≠r->(par v=r\/par v∈ks)->par v ∉ ws->v∈ks
theorem AInv.start:AInv m rs r par [] [r] where
 nd:=iX
 rng:=fun _ h=>by cases h
 nr:=fun h=>by cases h
 sub:=fun w h=>.inl (aB.mp h)
 wnd:=by simp
 ok:=fun _ h=>by cases h
 dn:=fun v _ _ _ h n=>by
   rcases h with h|h
   . exact absurd (by rw [h];simp) n
   . cases h
theorem AInv.at_ (J:AInv m rs r par ks ws) (r0:0<=r) (r1:r<m) {p:Int} (hp:p∈ws):0<=p/\p<m:=by
 rcases J.sub p hp with h|h
 . rw [h];exact ⟨r0,r1⟩
 . exact J.rng p h
theorem AInv.front (J:AInv m rs r par ks ws) {p:Int} (hp:p∈ws):(if p∈ks then V.int (par p) else V.non)=front r par p:=by
 unfold Pb.front;by_cases c:p=r
 . rw [ag c,aa (by rw [c];exact J.nr)]
 . rw [aa c,ag ((J.sub p hp).resolve_left c)]
theorem AInv.step (g:Good m rs) (R:Rooted m rs r par dep) (r0:0<=r) (r1:r<m) {ks ws ws':List Int} {p:Int} (J:AInv m rs r par ks ws) (e:ws.Perm (p::ws')):AInv m rs r par (ks++bA m rs (Pb.front r par p) p) (ws'++bA m rs (Pb.front r par p) p):=by
 have hp:p∈ws:=e.mem_iff.mpr aw;have pr:=J.at_ r0 r1 hp;have mk:∀ v,v∈bA m rs (Pb.front r par p) p↔(0<=v/\v<m)/\v≠r/\par v=p:=fun v=>dQ g R pr.1 pr.2;have nk:(bA m rs (Pb.front r par p) p).Nodup:=uX;generalize bA m rs (Pb.front r par p) p=kk at mk nk ⊢;have dis:∀ v∈kk,v ∉ ks:=fun v hv z=>(J.ok v z).1 (by rw [((mk v).mp hv).2.2];exact hp);obtain ⟨n1,n2⟩:=aE.mp (e.nodup_iff.mp J.wnd);have sw:∀ w∈ws',w∈ws:=fun w hw=>e.mem_iff.mpr (ak _ hw);refine ⟨?_,?_,?_,?_,?_,?_,?_⟩
 . rw [b7];exact ⟨J.nd,nk,fun a ha b hb z=>dis b hb (z ▸ ha)⟩
 . intro k hk;rcases aQ.mp hk with h|h
   . exact J.rng k h
   . exact ((mk k).mp h).1
 . intro z;rcases aQ.mp z with h|h
   . exact J.nr h
   . exact ((mk r).mp h).2.1 rfl
 . intro w hw;rcases aQ.mp hw with h|h
   . exact (J.sub w (sw w h)).imp id (a9 _)
   . exact .inr (aN _ h)
 . rw [b7];refine ⟨n2,nk,fun a ha b hb z=>?_⟩;subst z;rcases J.sub a (sw a ha) with h|h
   . exact ((mk a).mp hb).2.1 h
   . exact dis a hb h
 . intro v hv;rcases aQ.mp hv with h|h
   . obtain ⟨o1,o2⟩:=J.ok v h;refine ⟨fun z=>?_,o2.imp id (a9 _)⟩;rcases aQ.mp z with z|z
     . exact o1 (sw _ z)
     . rcases o2 with o|o
       . exact ((mk _).mp z).2.1 o
       . exact dis _ z o
   . obtain ⟨q1,q2,q3⟩:=(mk v).mp h;rw [q3];refine ⟨fun z=>?_,(J.sub p hp).imp id (a9 _)⟩;rcases aQ.mp z with z|z
     . exact n1 z
     . obtain ⟨w1,w2,w3⟩:=(mk p).mp z;exact R.ne w1.1 w1.2 w2 w3
 . intro v v0 v1 vr h n;have nk2:par v ∉ kk:=fun z=>n (aN _ z);have h':par v=r\/par v∈ks:=h.imp id fun z=>(aQ.mp z).resolve_right nk2;by_cases c:par v=p
   . exact aN _ ((mk v).mpr ⟨⟨v0,v1⟩,vr,c⟩)
   . refine a9 _ (J.dn v v0 v1 vr h' fun z=>?_);rcases az.mp (e.mem_iff.mp z) with z|z
     . exact c z
     . exact n (a9 _ z)
theorem AInv.perm {ks ws ws2:List Int} (J:AInv m rs r par ks ws) (e:ws.Perm ws2):AInv m rs r par ks ws2 where
 nd:=J.nd
 rng:=J.rng
 nr:=J.nr
 sub:=fun w h=>J.sub w (e.mem_iff.mpr h)
 wnd:=e.nodup_iff.mp J.wnd
 ok:=fun v h=>⟨fun z=>(J.ok v h).1 (e.mem_iff.mpr z),(J.ok v h).2⟩
 dn:=fun v h0 h1 hr h n=>J.dn v h0 h1 hr h fun z=>n (e.mem_iff.mp z)
theorem AInv.all (R:Rooted m rs r par dep) {ks:List Int} (J:AInv m rs r par ks []):∀ v,0<=v->v<m->v≠r->v∈ks:=by
 have key:∀ n v,dep v=n->0<=v->v<m->v≠r->v∈ks:=by
   intro n
   induction n with
   | zero =>
     intro v e v0 v1 vr;have:=(R.up v v0 v1 vr).2.2;omega
   | succ n ih =>
     intro v e v0 v1 vr;have u:=R.up v v0 v1 vr;refine J.dn v v0 v1 vr ?_ (by simp);by_cases c:par v=r
     . exact .inl c
     . exact .inr (ih (par v) (by omega) u.1.1 u.1.2 c)
 exact fun v=>key _ v rfl
theorem AInv.done (R:Rooted m rs r par dep) {ks:List Int} (J:AInv m rs r par ks []):nl m par ks=xN m r par:=by
 unfold nl xN;refine fo fun v hv=>?_;have hv':0<=v/\v<m:=by
   unfold below at hv;obtain ⟨k,hk,rfl⟩:=aY.mp hv;have:=bD.mp hk;omega
 unfold Pb.front;by_cases c:v=r
 . rw [ag c,aa (by rw [c];exact J.nr)]
 . rw [aa c,ag (J.all R v hv'.1 hv'.2 c)]
theorem R7 (n:Nat) (v:V):(List.replicate n [v]).flatten=List.replicate n v:=by
 induction n with
 | zero=>rfl
 | succ n ih=>rw [cj,eN,ih,cj];rfl
theorem VF:nl m par []=List.replicate m.toNat V.non:=by
 unfold nl;refine kL fun i=>?_;by_cases c:i<m.toNat
 . rw [aP,o9 c,g7,ag c];simp
 . rw [cG (by rw [ai,dq];omega),cG (by rw [c7];omega)]
def tx (par:Int->Int):Nat->Int->List Int
 | 0,v=>[v]
 | n+1,v=>v::tx par n (par v)
theorem Rooted.pos (R:Rooted m rs r par dep) {v:Int} (h0:0<=v) (h1:v<m) (hr:v≠r):dep v=dep (par v)+1:=(R.up v h0 h1 hr).2.2.symm
theorem EB (R:Rooted m rs r par dep):∀ (n:Nat) (v:Int),dep v=n->0<=v->v<m->(tx par n v).Nodup/\(∀ x∈tx par n v,(0<=x/\x<m)/\dep x<=n)/\(tx par n v).length=n+1
 | 0,v,e,h0,h1=>⟨by unfold tx;simp,fun x hx=>by
     unfold tx at hx;rw [aB.mp hx];exact ⟨⟨h0,h1⟩,by omega⟩,rfl⟩
 | n+1,v,e,h0,h1=>by
   have hr:v≠r:=fun z=>by rw [z,R.root] at e;omega
   have u:=R.up v h0 h1 hr;obtain ⟨i1,i2,i3⟩:=EB R n (par v) (by omega) u.1.1 u.1.2;unfold tx;refine ⟨aE.mpr ⟨fun z=>?_,i1⟩,fun x hx=>?_,by rw [aL,i3]⟩
   . have:=(i2 v z).2;omega
   . rcases az.mp hx with rfl|hx
     . exact ⟨⟨h0,h1⟩,by omega⟩
     . exact ⟨(i2 x hx).1,by have:=(i2 x hx).2;omega⟩
theorem EG (R:Rooted m rs r par dep) {v:Int} (h0:0<=v) (h1:v<m):dep v+1<=m.toNat:=by
 obtain ⟨i1,i2,i3⟩:=EB R _ v rfl h0 h1;have:=fZ (m:=m) (by omega) i1 fun x hx=>(i2 x hx).1;omega
theorem IB {v:Int} (h0:0<=v) (h1:v<m):(xN m r par)[v.toNat]?=some (front r par v):=by
 unfold xN;rw [aP,o9 (by omega)];show some (front r par ((v.toNat:Nat):Int))=_;rw [fm h0]
theorem CI (g:Good m rs) (R:Rooted m rs r par dep) {v:Int} (h0:0<=v) (h1:v<m) (hr:v≠r):∃ k,bM rs v (par v)=some k/\2<=k/\k<=1000000:=by
 obtain ⟨x,hx,j⟩:=(R.up v h0 h1 hr).2.1;obtain ⟨i,hi⟩:=cg hx;have ok:=g.ok x hx;rw [wE g hi j];unfold g8;by_cases c:x.a=v/\x.b=par v
 . rw [ag c];exact ⟨_,rfl,ok.t0,ok.t1⟩
 . rw [aa c];have c2:x.a=par v/\x.b=v:=by
     rcases j with j|j
     . exact absurd j c
     . exact ⟨j.2,j.1⟩
   rw [ag c2];exact ⟨_,rfl,ok.u0,ok.u1⟩
def um (m:Int) (rs:List Road) (r:Int) (par:Int->Int):Nat->Int->List Int
 | 0,v=>[v]
 | n+1,v=>v::(bA m rs (front r par v) v).flatMap (um m rs r par n)
def oB (m:Int) (rs:List Road) (r:Int) (par:Int->Int) (dep:Int->Nat) (v:Int):List Int:=um m rs r par (m.toNat - 1 - dep v) v
theorem yk {f h:Int->List Int}:∀ {l:List Int},(∀ x∈l,f x=h x)->l.flatMap f=l.flatMap h
 | [],_=>rfl
 | a::l,e=>by rw [dh,dh,e a aw,yk fun x hx=>e x (ak _ hx)]
theorem Gx (g:Good m rs) (R:Rooted m rs r par dep) {v:Int} (h0:0<=v) (h1:v<m):oB m rs r par dep v=v::(bA m rs (front r par v) v).flatMap (oB m rs r par dep):=by
 have mk:∀ u,u∈bA m rs (front r par v) v->(0<=u/\u<m)/\u≠r/\par u=v:=fun u=>(dQ g R h0 h1).mp;have du:∀ u∈bA m rs (front r par v) v,dep u=dep v+1/\dep u+1<=m.toNat:=fun u hu=>by
   obtain ⟨w1,w2,w3⟩:=mk u hu;have:=R.pos w1.1 w1.2 w2;rw [w3] at this;exact ⟨this,EG R w1.1 w1.2⟩
 unfold oB;cases e:m.toNat - 1 - dep v with
 | zero =>
   have:bA m rs (front r par v) v=[]:=iI.mpr fun u hu=>by
     have:=du u hu;omega
   rw [this]
   rfl
 | succ n =>
   show v::(bA m rs (front r par v) v).flatMap (um m rs r par n)=_;rw [yk fun u hu=>show um m rs r par n u=um m rs r par (m.toNat - 1 - dep u) u by rw [show m.toNat - 1 - dep u=n by have:=du u hu;omega]]
def up (par:Int->Int):Nat->Int->Int
 | 0,x=>x
 | k+1,x=>par (up par k x)
theorem Fg {f:Int->List Int}:∀ {l:List Int},l.Nodup->(∀ u∈l,(f u).Nodup)->(∀ u∈l,∀ w∈l,∀ x,x∈f u->x∈f w->u=w)->(l.flatMap f).Nodup
 | [],_,_,_=>by simp
 | a::l,n,h1,h2=>by
   obtain ⟨n1,n2⟩:=aE.mp n;rw [dh,b7];refine ⟨h1 a aw,Fg n2 (fun u hu=>h1 u (ak _ hu)) (fun u hu w hw=>h2 u (ak _ hu) w (ak _ hw)),fun x hx y hy z=>?_⟩;subst z;obtain ⟨w,hw,hxw⟩:=hJ.mp hy;have:=h2 a aw w (ak _ hw) x hx hxw;exact n1 (this ▸ hw)
theorem M6 (g:Good m rs) (R:Rooted m rs r par dep):∀ (n:Nat) (v:Int),0<=v->v<m->(um m rs r par n v).Nodup/\∀ x∈um m rs r par n v,(0<=x/\x<m)/\∃ k,dep x=dep v+k/\up par k x=v
 | 0,v,h0,h1=>⟨by unfold um;simp,fun x hx=>by
     unfold um at hx;rw [aB.mp hx];exact ⟨⟨h0,h1⟩,0,rfl,rfl⟩⟩
 | n+1,v,h0,h1=>by
   have mk:∀ u,u∈bA m rs (front r par v) v->(0<=u/\u<m)/\u≠r/\par u=v:=fun u=>(dQ g R h0 h1).mp;have nk:(bA m rs (front r par v) v).Nodup:=uX;have ih:=fun u hu=>M6 g R n u (mk u hu).1.1 (mk u hu).1.2;have du:∀ u∈bA m rs (front r par v) v,dep u=dep v+1:=fun u hu=>by
     obtain ⟨w1,w2,w3⟩:=mk u hu;have:=R.pos w1.1 w1.2 w2;rw [w3] at this;exact this
   unfold um;refine ⟨aE.mpr ⟨fun z=>?_,Fg nk (fun u hu=>(ih u hu).1) fun u hu w hw x hx hy=>?_⟩,fun x hx=>?_⟩
   . obtain ⟨u,hu,hv⟩:=hJ.mp z;obtain ⟨_,k,e,_⟩:=(ih u hu).2 v hv;have:=du u hu;omega
   . obtain ⟨_,k1,e1,f1⟩:=(ih u hu).2 x hx;obtain ⟨_,k2,e2,f2⟩:=(ih w hw).2 x hy;have d1:=du u hu;have d2:=du w hw;have:k1=k2:=(by omega);rw [<- f1,<- f2,this]
   . rcases az.mp hx with rfl|hx
     . exact ⟨⟨h0,h1⟩,0,rfl,rfl⟩
     . obtain ⟨u,hu,hv⟩:=hJ.mp hx;obtain ⟨xr,k,e,f⟩:=(ih u hu).2 x hv;exact ⟨xr,k+1,by rw [e,du u hu];omega,by show par (up par k x)=v;rw [f];exact (mk u hu).2.2⟩
theorem zK (g:Good m rs) (R:Rooted m rs r par dep) {v:Int} (h0:0<=v) (h1:v<m):(oB m rs r par dep v).length<=24:=by
 obtain ⟨n1,n2⟩:=M6 g R (m.toNat - 1 - dep v) v h0 h1;have:=fZ (m:=m) (by omega) n1 fun x hx=>(n2 x hx).1;have:=g.m24;unfold oB;omega
end Pb
namespace L2
open PySem PySem.Spec PyProof.Rows
def Itv (K:PySem.W.Frag) (a:Addr) (n:Nat):It :=
 ⟨fun i H=>i<n/\∃ xs x,SqL K H a xs/\xs[n - 1 - i]?=some x,fun i H x H'=>H'=H/\∀ xs,SqL K H a xs->xs[n - 1 - i]?=some x,fun i H=>n<=i⟩
theorem Re {P:Program} {w:World} {K:PySem.W.Frag} {tg:Expr} (a it:Addr) (n:Nat):Turn P w K tg (Itv K a n) [it] it (fun i h=>i<=n/\h.IsRevIter it a ((n:Int) - 1 - (i:Int))) where
 mem:=by simp
 obj:=fun i h st b hb=>by
   have e:b=it:=by simpa using hb
   subst e;obtain ⟨_,o,e,c,d⟩:=st;exact ⟨o,e,fun v z=>by rw [d] at z;cases z⟩
 keep:=fun i h h' st k=>⟨st.1,st.2.at fun o e=>k it (by simp) o e⟩
 item:=by
   intro X hP hw hK hc i pins s σ H E I hf st hg;subst hP hw hK;obtain ⟨hi,xs,x,hq,hx⟩:=hg;obtain ⟨its,rv,p,hz⟩:=I.list hq;obtain ⟨u,hu,ru⟩:=rv.get hx;obtain ⟨f0,f1,f2,f3,f4,f5⟩:=hf it (by simp);have e0:(n:Int) - 1 - (i:Int)=((n - 1 - i:Nat):Int):=by omega
   have st2:=st.2;rw [e0] at st2;refine wpAny_pyNext_rev_item st2 p.isList (x:=u) (by simpa using hu) fun h' st' sb=>?_;have I1:Inv X pins σ H { s with heap:=h' }:=I.turned (t':=s.toks) (fun b o hb e=>(sb.2 b hb).trans e) f0 f1 f3 f4 f5;obtain ⟨o,e,c,d⟩:=id st';have e1:((n - 1 - i:Nat):Int) - 1=(n:Int) - 1 - ((i+1:Nat):Int):=by omega
   rw [e1] at st';exact ⟨u,rfl,HU (s:={ s with heap:=h' }) e c d (by decide) ⟨x,H,I1,ru,⟨rfl,fun ys hy=>by rw [I.list_inj hy hq];exact hx⟩,⟨hi,st'⟩,fun b hb=>(hf b hb).1⟩⟩
 done:=by
   intro X hP hw hK hc i pins s σ H E I hf st hg;subst hP hw hK;have hg':n<=i:=hg;obtain ⟨f0,f1,f2,f3,f4,f5⟩:=hf it (by simp);have st2:=st.2;have st1:=st.1;rw [show (n:Int) - 1 - (i:Int)=-1 by omega] at st2;exact wpAny_pyNext_rev_end (I.ok.hd hc) st2 fun h' eb=>⟨rfl,I.turned (t':=s.toks) (fun b o hb e=>eb b o hb e) f0 f1 f3 f4 f5⟩
 self:=fun _ _ _ _ _ st h=>wpAny_pyIter_revIter st.2 h
def SY (K:PySem.W.Frag) (tl:TE):TI:=fun σ H R=>tl σ H fun x H1=>∃ a xs,x=.ref a/\SqL K H1 a xs/\R (Itv K a xs.length) H1
section
variable {X:Cx} {tg e:Expr} {te:TE} {p2 pos:Pos}
theorem EW (hg:Gl X "reversed") (hm:X.mg "reversed"=none) (he:PE X e te) (h2:starEach [e] X.env=[(false,eval e X.env)]:=by rfl):PI X tg (.Call (.Name "reversed" p2) [e] [] pos) (SY X.K te):=by
 intro pins s σ H R I h;refine Call_ (t8 I hg hm boot_reversed (dv ?_ h2 rfl));rw [h2];show wpAny _ _ (spliced ((false,eval e X.env)::backTo pos [])) _ _ s;refine jR (dB (he pins s σ H _ I h) fun u s1 x H1 I1 r1 q1=>kG ?_);obtain ⟨a,ys,ex,sa,q⟩:=q1;subst ex;cases r1;obtain ⟨its,rv,pl,hz⟩:=I1.list sa;refine call_reversed_list pl.isList ?_;have sz:its.toArray.size=ys.length:=by rw [aD,rv.length]
 rw [sz];refine wpAny_pyIter_revIter (i:=(ys.length:Int) - 1) (l:=a) ⟨_,bg _ rfl,rfl,rfl⟩ ?_;refine ⟨s1.heap.objs.size,[s1.heap.objs.size],_,_,H1,rfl,I1.kept (t':=s1.toks) fun b o e=>aJ _ e,Re a _ ys.length,⟨bo _,?_⟩,fun b hb=>?_,q⟩
 . exact ⟨_,bg _ rfl,rfl,by simp [revObj]⟩
 . have e:b=s1.heap.objs.size:=by simpa using hb
   subst e;exact I1.fpOk (aI _) (I1.hok.fresh (aI _))
end
theorem Ec {K:PySem.W.Frag} {a:Addr} {xs:List V} {g:TG} {tb:TS} {D:Ends} {σ:St} {H:Hp} (Pv:Nat->St->Hp->Prop) (h0:Pv 0 σ H) (hl:∀ i σ H,i<=xs.length->Pv i σ H->SqL K H a xs)
   (hs:∀ (i:Nat) (x:V) (σ:St) (H:Hp) (N:St->Hp->Prop),(∀ σ' H',Pv (i+1) σ' H'->N σ' H')->xs.reverse[i]?=some x->Pv i σ H->g x σ H fun σ2 H2=>tb { D with nx:=N,ct:=N,bk:=D.nx } σ2 H2) (hd:∀ σ H,Pv xs.length σ H->D.nx σ H) :
   wQ (Itv K a xs.length) D g tb σ H:=by
 refine ⟨fun i m σ H=>m=xs.length - i/\i<=xs.length/\Pv i σ H,⟨xs.length,by simp,bo _,h0⟩,?_⟩;rintro i m σ H ⟨rfl,hi,p⟩;have q:=hl i σ H hi p;by_cases hlt:i<xs.length
 . have hx:xs[xs.length - 1 - i]?=some xs[xs.length - 1 - i]:=ax (by omega);refine .inr ⟨⟨hlt,xs,_,q,hx⟩,fun σ' H'=>∃ m',m'<xs.length - i/\(m'=xs.length - (i+1)/\i+1<=xs.length/\Pv (i+1) σ' H'),fun σ' H' z=>z,fun x H' y=>?_⟩;obtain ⟨e,y⟩:=y;subst e;exact hs i x σ _ _ (fun σ' H' p'=>⟨xs.length - (i+1),by omega,rfl,hlt,p'⟩) (by rw [da hlt];exact y xs q) p
 . have e:i=xs.length:=by omega
   subst e;exact .inl ⟨aI _,hd σ H p⟩
end L2
namespace L2
open PySem PySem.Spec PyProof.Rows
def PX (te:TE):TE:=fun σ H Q=>te σ H fun x H1=>∃ i,x=.int i/\0<=i/\i<=100000/\∀ l,H1 l=none->Q (.ref l) (upd H1 l (.lst ((Pb.below i.toNat).map V.int)))
end L2
namespace L2
open PySem PySem.Spec PyProof.Rows
def Wp (_ j:Int):Prop:=0<j/\j<18446744073709551616
theorem Im {X:Cx}:OpR X (binaryOp .FloorDiv) (rI Wp fun i j=>.int (i / j)):=opI fun i j _ _ _ _ _ hc q=>by
 have h1:(0:Int)<j:=hc.1;have h2:j<18446744073709551616:=hc.2;refine floordiv_int (by omega) (by rw [jN i (by omega)];exact q) (.inl ?_);have h3:j.natAbs.log2<64:=(Nat.log2_lt (by omega)).mpr (by omega);unfold Builtin.divisionGoesByPylong;have hz:(j == 0)=false:=by simp;omega
 simp only [hz,dU,if_false];have:¬ (j.natAbs.log2 / 30+1 > 300):=by omega
 simp [this]
theorem BM {H:Hp} {l:Addr} {xs:List V} {i:Int} {v:V} {Q:Hp->Prop} (h:H l=some (.lst xs)) (i0:0<=i) (i1:i<xs.length) (q:Q (upd H l (.lst (xs.set i.toNat v)))):rSetL (.ref l) (.int i) v H Q :=
 ⟨l,xs,i,i.toNat,rfl,rfl,h,by unfold ixN;rw [ag i0,ag (by omega)],q⟩
theorem atG {xs:List Int} {i:Int} (i0:0<=i) (i1:i<xs.length):atI (xs.map V.int) i=some (.int (xs.getD i.toNat 0)):=Cz i0 (by
 have h:i.toNat<xs.length:=by omega
 rw [aP,ax h];simp [List.getD,h])
theorem TZ (n:Nat) (v:V):(List.replicate n [v]).flatten=List.replicate n v:=by
 induction n with
 | zero=>rfl
 | succ n ih=>rw [cj,eN,ih,cj];rfl
theorem yU {xs:List Int} {n:Nat} {v:Int} (h:∀ x∈xs,0<=x) (hv:0<=v):∀ x∈xs.set n v,0<=x:=fun x hx=>by
 rcases List.mem_or_eq_of_mem_set hx with h1|h1
 . exact h x h1
 . rw [h1];exact hv
theorem M8 {xs:List Int} (h:∀ x∈xs,0<=x) (n:Nat):0<=xs.getD n 0:=by
 by_cases z:n<xs.length
 . rw [List.getD,ax z];exact h _ (eZ z)
 . rw [List.getD,cG (by omega)];exact bh _
theorem Tu {X:Cx}:Vn X (Ip X.K):=by
 intro pins s σ H x y v u Q I rx ry h;obtain ⟨p,xs,i,z,rfl,rfl,hq,he,q⟩:=h;cases rx;obtain ⟨t,rfl⟩:=ry;obtain ⟨its,r,pl,hz⟩:=I.list hq;obtain ⟨j,h1,h2,h3,h4,h5⟩:=Ga he;obtain ⟨w,ew,rw'⟩:=r.get h2;have hl:=r.length;have hn:=vK;have fin:EP X pins σ Q w s:=⟨z,H,I,rw',q⟩;by_cases h0:0<=i
 . have hj:i.toNat=j:=by
     rw [seqIndex_of h0 h5] at h1;exact bi h1
   exact wpAny_getItem_list pl.isList h0 (by omega) (by rw [hj];simpa using ew) fin
 . have hj:(i+(its.toArray.size:Int)).toNat=j:=by
     rw [seqIndex_neg (by omega) h4] at h1;rw [aD,<- hl];exact bi h1
   exact wpAny_getItem_list_neg pl.isList (by omega) (by rw [aD] <;> omega) (by omega) (by rw [hj];simpa using ew) fin
theorem SS {K:PySem.W.Frag} {a p:Addr} {xs:List V} {Q:VK} {g:TG} {tc:TT} {te:TE} {σ0:St} {H0:Hp} (Pv:Nat->List V->St->Hp->Prop) (h0:Pv 0 [] σ0 H0) (hl:∀ i ys σ H,i<=xs.length->Pv i ys σ H->SqL K H a xs)
   (hs:∀ (i:Nat) (x:V) (ys:List V) (σ:St) (H:Hp) (N:List V->St->Hp->Prop),(∀ ys' σ' H',Pv (i+1) ys' σ' H'->N ys' σ' H')->xs.reverse[i]?=some x->Pv i ys σ H->g x σ H fun σ2 H2=>tc σ2 H2 fun b H3 =>
     if b=true then te σ2 H3 fun y H4=>H4 p=some (.lst ys)/\ys.length<sizeLine/\N (ys++[y]) σ2 (upd H4 p (.lst (ys++[y]))) else N ys σ2 H3)
   (hd:∀ ys σ H,Pv xs.length ys σ H->Q (.ref p) H):EN (Itv K a xs.length) p Q g tc te σ0 H0:=by
 refine ⟨fun i m ys σ H=>m=xs.length - i/\i<=xs.length/\Pv i ys σ H,⟨xs.length,by simp,bo _,h0⟩,?_⟩;rintro i m ys σ H ⟨rfl,hi,pv⟩;have q:=hl i ys σ H hi pv;by_cases hlt:i<xs.length
 . have hx:xs[xs.length - 1 - i]?=some xs[xs.length - 1 - i]:=ax (by omega);refine .inr ⟨⟨hlt,xs,_,q,hx⟩,fun x H' y=>?_⟩;obtain ⟨e,y⟩:=y;subst e;exact hs i x ys σ _ (fun ys' σ' H'=>∃ m',m'<xs.length - i/\(m'=xs.length - (i+1)/\i+1<=xs.length/\Pv (i+1) ys' σ' H')) (fun ys' σ' H' pv'=>⟨xs.length - (i+1),by omega,rfl,hlt,pv'⟩) (by rw [da hlt];exact y xs q) pv
 . have e:i=xs.length:=by omega
   subst e;exact .inl ⟨aI _,hd ys σ H pv⟩
end L2
namespace Pb
open L2
def After (par:Int->Int):List Int->List Int->Prop
 | _,[]=>True
 | S,c::t=>par c∈S/\After par (c::S) t
section
variable {m:Int} {rs:List Road} {r:Int} {par:Int->Int} {dep:Int->Nat}
theorem After.mono:∀ {l S S':List Int},(∀ x∈S,x∈S')->After par S l->After par S' l
 | [],_,_,_,_=>trivial
 | c::t,S,S',h,a=>⟨h _ a.1,After.mono (fun x hx=>by
     rcases az.mp hx with e|e
     . exact az.mpr (.inl e)
     . exact ak _ (h x e)) a.2⟩
theorem After.append:∀ {l1 l2 S:List Int},After par S l1->After par S l2->After par S (l1++l2)
 | [],_,_,_,b=>b
 | c::t,l2,S,a,b=>⟨a.1,After.append a.2 (b.mono fun x hx=>ak _ hx)⟩
theorem After.snoc {c:Int}:∀ {l S:List Int},After par S l->(par c∈S\/par c∈l)->After par S (l++[c])
 | [],S,_,h=>⟨h.resolve_right (by simp),trivial⟩
 | d::t,S,a,h=>⟨a.1,After.snoc a.2 (by
     rcases h with h|h
     . exact .inl (ak _ h)
     . rcases az.mp h with e|e
       . exact .inl (az.mpr (.inl e))
       . exact .inr e)⟩
theorem After.up:∀ {A B S:List Int},After par S (A++B)->∀ k∈A,par k∈S\/par k∈A
 | [],_,_,_,k,hk=>by cases hk
 | c::t,B,S,a,k,hk=>by
   rcases az.mp hk with e|e
   . rw [e];exact .inl a.1
   . rcases After.up (A:=t) (B:=B) a.2 k e with h|h
     . rcases az.mp h with h|h
       . exact .inr (by rw [h];exact aw)
       . exact .inl h
     . exact .inr (ak _ h)
structure Order (m r:Int) (par:Int->Int) (t:List Int):Prop where
 nd:(r::t).Nodup
 rng:∀ v∈t,0<=v/\v<m
 all:∀ v,0<=v->v<m->v=r\/v∈t
 af:After par [r] t
theorem Order.ne {t:List Int} (O:Order m r par t) {v:Int} (h:v∈t):v≠r:=fun z=>(aE.mp O.nd).1 (z ▸ h)
theorem E3 (g:Good m rs) (R:Rooted m rs r par dep):∀ (n:Nat) (v:Int) (S:List Int),0<=v->v<m->par v∈S->After par S (um m rs r par n v)
 | 0,v,S,_,_,h=>⟨h,trivial⟩
 | n+1,v,S,h0,h1,h=>by
   refine ⟨h,?_⟩;have:∀ (ks:List Int) (S:List Int),v∈S->(∀ u∈ks,u∈bA m rs (front r par v) v)->After par S (ks.flatMap (um m rs r par n)):=by
     intro ks
     induction ks with
     | nil=>intro S _ _;exact trivial
     | cons u ks ih =>
       intro S hv hk;rw [dh];obtain ⟨w1,w2,w3⟩:=(dQ g R h0 h1).mp (hk u aw);exact (E3 g R n u S w1.1 w1.2 (by rw [w3];exact hv)).append (ih S hv fun x hx=>hk x (ak _ hx))
   exact this _ _ aw fun u hu=>hu
theorem Oo (g:Good m rs) (R:Rooted m rs r par dep) (r0:0<=r) (r1:r<m) (nd:(oB m rs r par dep r).Nodup) (al:∀ v,v∈oB m rs r par dep r↔0<=v/\v<m):∃ t,oB m rs r par dep r=r::t/\Order m r par t:=by
 have e:=Gx g R r0 r1;refine ⟨_,e,?_⟩;rw [e] at nd al;refine ⟨nd,fun v hv=>(al v).mp (ak _ hv),fun v h0 h1=>az.mp ((al v).mpr ⟨h0,h1⟩),?_⟩;have:∀ ks:List Int,(∀ u∈ks,u∈bA m rs (front r par r) r)->After par [r] (ks.flatMap (oB m rs r par dep)):=by
   intro ks
   induction ks with
   | nil=>intro _;exact trivial
   | cons u ks ih =>
     intro hk;rw [dh];obtain ⟨w1,w2,w3⟩:=(dQ g R r0 r1).mp (hk u aw);exact (E3 g R _ u [r] w1.1 w1.2 (by rw [w3];exact aw)).append (ih fun x hx=>hk x (ak _ hx))
 exact this _ fun u hu=>hu
def Bl (m:Int) (rs:List Road) (r:Int) (par:Int->Int) (held:Int->Int) (con:Int->Int->Int):Nat->Int->Int
 | 0,v=>held v
 | n+1,v=>held v+((bA m rs (front r par v) v).map fun c=>con c (Bl m rs r par held con n c)).sum
def gat (m:Int) (rs:List Road) (r:Int) (par:Int->Int) (dep:Int->Nat) (held:Int->Int) (con:Int->Int->Int) (v:Int):Int:=Bl m rs r par held con (m.toNat - 1 - dep v) v
variable {held:Int->Int} {con:Int->Int->Int}
theorem g3 (g:Good m rs) (R:Rooted m rs r par dep) {v:Int} (h0:0<=v) (h1:v<m):gat m rs r par dep held con v=held v+((bA m rs (front r par v) v).map fun c=>con c (gat m rs r par dep held con c)).sum:=by
 have mk:∀ u,u∈bA m rs (front r par v) v->(0<=u/\u<m)/\u≠r/\par u=v:=fun u=>(dQ g R h0 h1).mp;have du:∀ u∈bA m rs (front r par v) v,dep u=dep v+1/\dep u+1<=m.toNat:=fun u hu=>by
   obtain ⟨w1,w2,w3⟩:=mk u hu;have:=R.pos w1.1 w1.2 w2;rw [w3] at this;exact ⟨this,EG R w1.1 w1.2⟩
 unfold gat;cases e:m.toNat - 1 - dep v with
 | zero =>
   have:bA m rs (front r par v) v=[]:=iI.mpr fun u hu=>by
     have:=du u hu;omega
   rw [this];simp [Bl]
 | succ n =>
   show held v+_=_;rw [fo fun u hu=>show con u (Bl m rs r par held con n u)=con u (Bl m rs r par held con (m.toNat - 1 - dep u) u) by rw [show m.toNat - 1 - dep u=n by have:=du u hu;omega]]
theorem IP {l l':List Int} (h:l.Perm l'):l.sum=l'.sum:=by
 induction h with
 | nil=>rfl
 | cons x _ ih=>rw [bc,bc,ih]
 | swap x y l=>simp only [bc];omega
 | trans _ _ h1 h2=>exact h1.trans h2
def zT (par:Int->Int) (con:Int->Int->Int) (cs:List Int) (v:Int):List Int:=cs.set (par v).toNat (cs.getD (par v).toNat 0+con v (cs.getD v.toNat 0))
structure Sofar (m:Int) (rs:List Road) (r:Int) (par:Int->Int) (dep:Int->Nat) (held:Int->Int) (con:Int->Int->Int) (t cs:List Int):Prop where
 len:(cs.length:Int)=m
 val:∀ v,0<=v->v<m->cs.getD v.toNat 0=held v+((t.filter fun c=>decide (par c=v)).map fun c=>con c (gat m rs r par dep held con c)).sum
theorem Sofar.nil {hs:List Int} (h:(hs.length:Int)=m):Sofar m rs r par dep (fun v=>hs.getD v.toNat 0) con [] hs:=⟨h,fun v _ _=>by simp⟩
theorem C4 (g:Good m rs) (R:Rooted m rs r par dep) {t:List Int} (nd:t.Nodup) (tr:∀ x∈t,(0<=x/\x<m)/\x≠r) {v:Int} (h0:0<=v) (h1:v<m) (hk:∀ k,0<=k->k<m->k≠r->par k=v->k∈t):(t.filter fun c=>decide (par c=v)).Perm (bA m rs (front r par v) v):=by
 refine qR (nd.filter _) uX fun x=>?_;rw [bG,dQ g R h0 h1,aU];exact ⟨fun h=>⟨(tr x h.1).1,(tr x h.1).2,h.2⟩,fun h=>⟨hk x h.1.1 h.1.2 h.2.1 h.2.2,h.2.2⟩⟩
theorem Sofar.full (g:Good m rs) (R:Rooted m rs r par dep) {t cs:List Int} (s:Sofar m rs r par dep held con t cs) (nd:t.Nodup) (tr:∀ x∈t,(0<=x/\x<m)/\x≠r) {v:Int} (h0:0<=v) (h1:v<m) (hk:∀ k,0<=k->k<m->k≠r->par k=v->k∈t):cs.getD v.toNat 0=gat m rs r par dep held con v:=by
 rw [s.val v h0 h1,g3 g R h0 h1,IP ((C4 g R nd tr h0 h1 hk).map _)]
theorem Sofar.step (g:Good m rs) (R:Rooted m rs r par dep) {t cs:List Int} (s:Sofar m rs r par dep held con t cs) {v:Int} (h0:0<=v) (h1:v<m) (hr:v≠r) (e:cs.getD v.toNat 0=gat m rs r par dep held con v):Sofar m rs r par dep held con (v::t) (zT par con cs v) where
 len:=by unfold zT;rw [bN];exact s.len
 val:=fun u u0 u1=>by
   have pu:=(R.up v h0 h1 hr).1;have sl:=s.len;have vu:=s.val u u0 u1;unfold zT;rw [e];by_cases c:par v=u
   . have hl:u.toNat<cs.length:=(by omega);rw [cL (by simpa using c),aK,bc,c];rw [show (cs.set u.toNat (cs.getD u.toNat 0+con v (gat m rs r par dep held con v))).getD u.toNat 0=cs.getD u.toNat 0+con v (gat m rs r par dep held con v) by simp [List.getD,hl],vu];omega
   . rw [cN (by simpa using c),<- vu];have:(par v).toNat≠u.toNat:=(by omega);simp [List.getD,gh this]
theorem Order.places {t:List Int} (O:Order m r par t):∀ x∈t,(0<=x/\x<m)/\x≠r:=fun x hx=>⟨O.rng x hx,O.ne hx⟩
theorem Order.turn (g:Good m rs) (R:Rooted m rs r par dep) {t cs:List Int} (O:Order m r par t) {i:Nat} {v:Int} (s:Sofar m rs r par dep held con (t.drop (t.length - i)) cs) (hv:t.reverse[i]?=some v) :
   ((0<=v/\v<m)/\v≠r)/\cs.getD v.toNat 0=gat m rs r par dep held con v/\Sofar m rs r par dep held con (t.drop (t.length - (i+1))) (zT par con cs v):=by
 have hi:i<t.length:=by
   have:=(aq.mp hv).1
   rwa [be] at this
 rw [da hi] at hv;generalize hj:t.length - 1 - i=j at hv;have ej:t.length - i=j+1:=by omega
 have ej':t.length - (i+1)=j:=by omega
 rw [ej] at s;rw [ej'];have hjl:j<t.length:=by omega
 have vm:v∈t:=a8 hv;have vp:=O.places v vm;have ed:t.drop j=v::t.drop (j+1):=by
   rw [kD hjl];rw [ax hjl] at hv;cases hv
   rfl
 have es:t=t.take j++v::t.drop (j+1):=by rw [<- ed,fQ]
 have ndt:=(aE.mp O.nd).2;have nd2:=ndt;rw [es] at nd2;have av:v ∉ t.take j:=fun z=>(b7.mp nd2).2.2 v z v aw rfl;have e:=s.full g R (ndt.sublist (List.drop_sublist _ _)) (fun x hx=>O.places x (mM hx)) vp.1.1 vp.1.2 fun k k0 k1 kr pk=>by
   rcases O.all k k0 k1 with z|z
   . exact absurd z kr
   . rw [es] at z;rcases aQ.mp z with z|z
     . have af:=O.af;rw [es] at af;rcases af.up k z with w|w
       . rw [pk] at w;exact absurd (aB.mp w) vp.2
       . rw [pk] at w;exact absurd w av
     . rcases az.mp z with z|z
       . subst z;exact absurd pk (R.ne k0 k1 kr)
       . exact z
 exact ⟨vp,e,by rw [ed];exact s.step g R vp.1.1 vp.1.2 vp.2 e⟩
def oE (m:Int) (rs:List Road) (r:Int) (par:Int->Int) (dep:Int->Nat) (held:Int->Int) (con:Int->Int->Int):List Int:=(below m.toNat).map (gat m rs r par dep held con)
theorem z8 {v:Int} (h0:0<=v) (h1:v<m):(oE m rs r par dep held con).getD v.toNat 0=gat m rs r par dep held con v:=by
 unfold oE;rw [List.getD,aP,o9 (by omega),fm h0]
 rfl
theorem Order.done (g:Good m rs) (R:Rooted m rs r par dep) {t cs:List Int} (O:Order m r par t) (s:Sofar m rs r par dep held con t cs):cs=oE m rs r par dep held con:=by
 have sl:=s.len;refine kL fun i=>?_;by_cases h:i<m.toNat
 . have hc:i<cs.length:=by omega
   have e:=s.full g R (aE.mp O.nd).2 O.places (v:=(i:Int)) (by omega) (by omega) fun k k0 k1 kr pk=>(O.all k k0 k1).resolve_left kr;unfold oE;rw [aP,o9 h];rw [dR,List.getD,ax hc] at e;rw [ax hc];exact congrArg some e
 . unfold oE;rw [cG (by omega),cG (by rw [ai,dq];omega)]
theorem Rooted.adj (R:Rooted m rs r par dep) {a b:Int} (h:Adj rs a b):(b≠r/\par b=a)\/(a≠r/\par a=b):=by
 obtain ⟨x,hx,j⟩:=h;have:=R.road x hx;rcases j with ⟨e1,e2⟩|⟨e1,e2⟩
 . subst e1;subst e2;exact this.symm
 . subst e1;subst e2;exact this
end
end Pb
namespace Pb
open L2
section
variable {m:Int} {rs:List Road} {r:Int} {par:Int->Int} {dep:Int->Nat} {held:Int->Int}
theorem Order.kids (R:Rooted m rs r par dep) {tl P S:List Int} {v:Int} (O:Order m r par tl) (es:tl=P++v::S):∀ k,0<=k->k<m->k≠r->par k=v->k∈S:=by
 intro k k0 k1 kr pk;have vm:v∈tl:=by rw [es];simp
 have vp:=O.places v vm;have nd2:=(aE.mp O.nd).2;rw [es] at nd2;have av:v ∉ P:=fun z=>(b7.mp nd2).2.2 v z v aw rfl;rcases O.all k k0 k1 with z|z
 . exact absurd z kr
 . rw [es] at z;rcases aQ.mp z with z|z
   . have af:=O.af;rw [es] at af;rcases af.up k z with w|w
     . rw [pk] at w;exact absurd (aB.mp w) vp.2
     . rw [pk] at w;exact absurd w av
   . rcases az.mp z with z|z
     . subst z;exact absurd pk (R.ne k0 k1 kr)
     . exact z
def tol (rs:List Road) (par:Int->Int) (v:Int):Int:=(bM rs v (par v)).getD 1
theorem ni (l:List Int) (i j:Nat) (x:Int) (h:i<l.length):(l.set i x).getD j 0=if i=j then x else l.getD j 0:=by
 by_cases c:i=j
 . subst c;rw [ag rfl];simp [List.getD,h]
 . rw [aa c];simp [List.getD,gh c]
end
end Pb
namespace L2
open PySem PySem.Spec PyProof.Rows
def WA (lo st:Int) (n:Nat):It:=⟨fun i _=>i<n,fun i H x H'=>H'=H/\x=.int (lo+i*st),fun i _=>n<=i⟩
def TD (ta:TA):TI:=fun σ H R=>ta σ H fun vs H1=>∃ i j c:Int,vs=[.int i,.int j,.int c]/\(0<=i/\i<=1000000/\0<=j/\j<=1000000/\0<c/\c<=1000000)/\R (WA i c (Builtin.Range.rangeSize i j c).toNat) H1
end L2
namespace L2
open PySem PySem.Spec PyProof.Rows
def R6 (K:PySem.W.Frag) (c:Bool):R2:=fun x y H Q=>∃ p xs i v,x=.ref p/\y=.int i/\SqX K c H p xs/\atI xs i=some v/\Q v H
theorem Vd {X:Cx} (c:Bool):IxR X (R6 X.K c):=by
 cases c
 . exact fh
 . exact b6
theorem MN {X:Cx} (c:Bool) (K:PySem.W.Frag) (h:X.K=K):IxR X (R6 K c):=by subst h;exact Vd c
theorem ixX {K:PySem.W.Frag} {c:Bool} {H:Hp} {p:Addr} {xs:List V} {i:Int} {v:V} {Q:VK} (h:SqX K c H p xs) (e:atI xs i=some v) (q:Q v H):R6 K c (.ref p) (.int i) H Q:=⟨p,xs,i,v,rfl,rfl,h,e,q⟩
theorem Vv {K:PySem.W.Frag} {H:Hp} {p:Addr} {xs:List V} {i:Int} {v:V} {Q:VK} (h:SqT K H p xs) (e:atI xs i=some v) (q:Q v H):OE K (.ref p) (.int i) H Q:=⟨p,xs,i,v,rfl,rfl,h,e,q⟩
theorem UV {c:Prop} [Decidable c] {A B:Prop} {P:Int->Prop} (m1 m2:Int) (hB:P m2->B) (hA:P m1->A) (h:∀ m,(m=m1\/m=m2)->P m):if c then A else B:=by
 by_cases z:c
 . rw [ag z];exact hA (h _ (.inl rfl))
 . rw [aa z];exact hB (h _ (.inr rfl))
end L2
namespace Pb
open L2 PySem
theorem M5 {α β:Type} {R:α->β->Prop}:∀ (n:Nat) {l₁:List α} {l₂:List β},Paired R l₁ l₂->Paired R (l₁.take n) (l₂.take n)
 | 0,_,_,_=>by rw [dJ,dJ];exact .nil
 | _+1,_,_,.nil=>.nil
 | n+1,_,_,.cons x xs=>.cons x (M5 n xs)
theorem MK {α β:Type} {R:α->β->Prop}:∀ (n:Nat) {l₁:List α} {l₂:List β},Paired R l₁ l₂->Paired R (l₁.drop n) (l₂.drop n)
 | 0,_,_,h=>h
 | _+1,_,_,.nil=>.nil
 | n+1,_,_,.cons x xs=>MK n xs
theorem JW {α β:Type} {R:α->β->Prop} {k₁:List α} {k₂:List β} (h:Paired R k₁ k₂):∀ {l₁:List α} {l₂:List β},Paired R l₁ l₂->Paired R (l₁++k₁) (l₂++k₂)
 | _,_,.nil=>h
 | _,_,.cons x xs=>.cons x (JW h xs)
theorem VI {α β:Type} {R:α->β->Prop} {ps:List α} {rs:List β} {q:α} {r:β} (n:Nat) (h:Paired R ps rs) (e:R q r):Paired R (ps.take n++q::ps.drop n) (rs.take n++r::rs.drop n):=JW (.cons e (MK n h)) (M5 n h)
theorem KP (n:Nat):Labels n (below n):=⟨dq n,nZ n,fun v h0 h1=>iM.mpr ⟨h0,h1⟩,fun v h=>iM.mp h⟩
theorem EI {n:Nat} {v:Int} (h0:0<=v) (h1:v<n):(below n).getD v.toNat 0=v:=by
 rw [List.getD,o9 (by omega),fm h0]
 rfl
theorem Qv {n:Nat} {rows:List Row} {row:Row} (R:Rows n rows) (k:row.k=(n:Int)+1) (ok:RowOk row):Rows (n+1) (rows++[row]):=by
 have rl:=R.len;refine ⟨by rw [aH,rl];rfl,fun j r hj=>?_⟩;by_cases hjl:j<rows.length
 . rw [dP hjl] at hj;exact R.ok j r hj
 . have hj2:j=rows.length:=by
     have:=(aq.mp hj).1;rw [aH] at this;simp at this;omega
   rw [hj2,dD (aI _),ke] at hj;cases hj;exact ⟨by rw [hj2,rl];exact k,ok⟩
section
variable {m:Int} {rs:List Road} {r:Int} {par:Int->Int} {dep:Int->Nat}
def hnd (rs:List Road) (par:Int->Int) (v x:Int):Int:=if 0<=x then x / (bM rs v (par v)).getD 1 else x*(bM rs (par v) v).getD 1
theorem CF (g:Good m rs) (R:Rooted m rs r par dep) {v:Int} (h0:0<=v) (h1:v<m) (hr:v≠r):∃ k,bM rs (par v) v=some k/\2<=k/\k<=1000000:=by
 obtain ⟨x,hx,j⟩:=(R.up v h0 h1 hr).2.1;obtain ⟨i,hi⟩:=cg hx;have ok:=g.ok x hx;have jj:sd x (par v) v:=by
   rcases j with ⟨a,b⟩|⟨a,b⟩
   . exact .inr ⟨b,a⟩
   . exact .inl ⟨b,a⟩
 rw [wE g hi jj];unfold g8;by_cases c:x.a=par v/\x.b=v
 . rw [ag c];exact ⟨_,rfl,ok.t0,ok.t1⟩
 . rw [aa c];have c2:x.a=v/\x.b=par v:=by
     rcases jj with w|w
     . exact absurd w c
     . exact ⟨w.2,w.1⟩
   rw [ag c2];exact ⟨_,rfl,ok.u0,ok.u1⟩
def kU (rs:List Road) (fv:V) (p:Int) (i:Nat):List Int:=((below i).filter fun q=>(bM rs p q).isSome).filter fun v=>decide (V.int v≠fv)
theorem Ae (i:Nat):below (i+1)=below i++[(i:Int)]:=by
 unfold below;rw [iG,aA]
 rfl
theorem FC (p:Int) (fv:V):kU rs fv p m.toNat=bA m rs fv p:=by
 unfold kU bA;rw [Qd]
theorem NU {fv:V} {p:Int} {i:Nat} (h1:(bM rs p (i:Int)).isSome=true) (h2:V.int (i:Int)≠fv):kU rs fv p (i+1)=kU rs fv p i++[(i:Int)]:=by
 unfold kU;rw [Ae,b9,b9]
 congr 1
 simp [h1,h2]
theorem Fa {fv:V} {p:Int} {i:Nat} (h:(bM rs p (i:Int)).isSome=true->¬ V.int (i:Int)≠fv):kU rs fv p (i+1)=kU rs fv p i:=by
 unfold kU;rw [Ae,b9,b9];have:([(i:Int)].filter fun q=>(bM rs p q).isSome).filter (fun v=>decide (V.int v≠fv))=[]:=by
   by_cases c:(bM rs p (i:Int)).isSome=true
   . have:=h c;simp [c]
     simpa using this
   . simp [c]
 rw [this,bC]
structure Bfs (m:Int) (rs:List Road) (r:Int) (par:Int->Int) (t:List Int) (k:Nat):Prop where
 J:AInv m rs r par t ((r::t).drop k)
 af:After par [r] t
theorem Bfs.start:Bfs m rs r par [] 0:=⟨AInv.start,trivial⟩
theorem Bfs.step (g:Good m rs) (R:Rooted m rs r par dep) (r0:0<=r) (r1:r<m) {t:List Int} {k:Nat} (b:Bfs m rs r par t k) {p:Int} (hp:(r::t)[k]?=some p):Bfs m rs r par (t++bA m rs (front r par p) p) (k+1):=by
 have hk:=(aq.mp hp).1;have ed:(r::t).drop k=p::(r::t).drop (k+1):=by
   rw [kD hk];rw [ax hk] at hp;cases hp
   rfl
 have J:=b.J.step g R r0 r1 (p:=p) (ws':=(r::t).drop (k+1)) (by rw [ed]);have pr:=b.J.at_ r0 r1 (p:=p) (by rw [ed];exact aw);have pm:p∈r::t:=a8 hp;refine ⟨?_,?_⟩
 . rw [<- lD,List.drop_append_of_le_length (by omega)];exact J
 . have:∀ (ks l:List Int),(∀ u∈ks,u∈bA m rs (front r par p) p)->After par [r] l->p∈r::l->After par [r] (l++ks):=by
     intro ks
     induction ks with
     | nil=>intro l _ h _;rw [bC];exact h
     | cons u ks ih =>
       intro l hu h hpl;obtain ⟨w1,w2,w3⟩:=(dQ g R pr.1 pr.2).mp (hu u aw);have h2:After par [r] (l++[u]):=h.snoc (by
         rw [w3];rcases az.mp hpl with e|e
         . exact .inl (by rw [e];exact aw)
         . exact .inr e)
       have:=ih (l++[u]) (fun x hx=>hu x (ak _ hx)) h2 (by
         rcases az.mp hpl with e|e
         . rw [e];exact aw
         . exact ak _ (a9 _ e))
       rwa [bX] at this
   exact this _ t (fun u hu=>hu) b.af pm
theorem Bfs.done (R:Rooted m rs r par dep) {t:List Int} {k:Nat} (hk:(r::t).length<=k) (b:Bfs m rs r par t k):Order m r par t:=by
 have J:=b.J;rw [List.drop_eq_nil_of_le hk] at J;refine ⟨aE.mpr ⟨J.nr,J.nd⟩,J.rng,fun v h0 h1=>?_,b.af⟩;by_cases z:v=r
 . exact .inl z
 . exact .inr (J.all R v h0 h1 z)
end
def cx (m:Int) (xs ys:List Int):List Int:=(List.range m.toNat).map fun i=>xs.getD i 0 - ys.getD i 0
theorem G3 {m:Int} (h:0<=m) (xs ys:List Int):((cx m xs ys).length:Int)=m:=by unfold cx;rw [ai,fT];omega
end Pb
namespace L2
open PySem PySem.Spec PyProof.Rows
def Ite (K:PySem.W.Frag) (c:Bool) (a:Addr):It :=
 ⟨fun i H=>∃ xs x,SqX K c H a xs/\xs[i]?=some x,
  fun i H v H'=>∃ p x,H p=none/\v=.ref p/\H'=upd H p (.tup [.int i,x])/\∀ xs,SqX K c H a xs->xs[i]?=some x,
  fun i H=>∃ xs,SqX K c H a xs/\xs.length=i⟩
def T4 (K:PySem.W.Frag) (c:Bool) (tl:TE):TI:=fun σ H R=>tl σ H fun x H1=>∃ a,x=.ref a/\(∃ xs,SqX K c H1 a xs)/\R (Ite K c a) H1
end L2
namespace Pb
open L2 PySem
abbrev Stp:=Int × Int × Int
def vSt (s:Stp):List V:=[.int s.1,.int s.2.1,.int s.2.2]
abbrev StepsAt (H:Hp):List Addr->List Stp->Prop:=Paired fun q s=>H q=some (.tup (vSt s))
theorem StepsAt.same {H H':Hp} {qs:List Addr} {ss:List Stp} (e:Same H H') (h:StepsAt H qs ss):StepsAt H' qs ss:=Paired.imp' (fun q v x=>e q _ x) h
theorem StepsAt.get {H:Hp}:∀ {ps:List Addr} {vs:List Stp} {i:Nat} {x:V},StepsAt H ps vs->(ps.map V.ref)[i]?=some x->∃ p v,x=.ref p/\ps[i]?=some p/\vs[i]?=some v/\H p=some (.tup (vSt v))
 | _,_,i,x,.nil,e=>by simp at e
 | _,_,0,x,.cons (a:=p) (b:=r) h hs,e=>⟨p,r,by simpa using e.symm,by simp,by simp,h⟩
 | a::l1,_,i+1,x,.cons h hs,e=>by
   have e':(List.map V.ref l1)[i]?=some x:=by simpa using e
   obtain ⟨p,r,h1,h2,h3,h4⟩:=StepsAt.get hs e';exact ⟨p,r,h1,by simpa using h2,by simpa using h3,h4⟩
theorem CA {α β:Type} {R:α->β->Prop} {a:α} {b:β} (h:R a b):∀ {l₁:List α} {l₂:List β},Paired R l₁ l₂->Paired R (l₁++[a]) (l₂++[b])
 | _,_,.nil=>.cons h .nil
 | _,_,.cons x xs=>.cons x (CA h xs)
theorem pr_get {α β:Type} {R:α->β->Prop}:∀ {ps:List α} {vs:List β} {i:Nat} {x:α},Paired R ps vs->ps[i]?=some x->∃ v,vs[i]?=some v/\R x v
 | _,_,i,x,.nil,e=>by simp at e
 | _,_,0,x,.cons (a:=p) (b:=r) h hs,e=>by
   have:p=x:=by simpa using e
   subst this;exact ⟨r,by simp,h⟩
 | a::l1,_,i+1,x,.cons h hs,e=>by
   have e':l1[i]?=some x:=by simpa using e
   obtain ⟨v,h1,h2⟩:=pr_get hs e';exact ⟨v,by simpa using h1,h2⟩
def d9 (rs:List Road) (a b:Int):Int:=(bM rs a b).getD 1
def bU (rs:List Road) (xs:List Int) (s:Stp):List Int :=
 (xs.set s.1.toNat (xs.getD s.1.toNat 0 - s.2.2*d9 rs s.1 s.2.1)).set s.2.1.toNat ((xs.set s.1.toNat (xs.getD s.1.toNat 0 - s.2.2*d9 rs s.1 s.2.1)).getD s.2.1.toNat 0+s.2.2)
theorem ue (rs:List Road) (xs:List Int) (s:Stp):(bU rs xs s).length=xs.length:=by unfold bU;rw [bN,bN]
def mW (m:Int) (rs:List Road) (s:Stp):Bool:=decide (0<=s.1) && decide (s.1<m) && decide (s.2.1∈m9 m rs s.1) && decide (1<=s.2.2)
def gI (m:Int) (rs:List Road) (xs:List Int) (s:Stp):Bool:=mW m rs s && decide (s.2.2*d9 rs s.1 s.2.1<=xs.getD s.1.toNat 0)
def gq (rs:List Road) (xs:List Int) (ss:List Stp) (i:Nat):List Int:=(ss.take i).foldl (bU rs) xs
def jW (m:Int) (rs:List Road) (xs:List Int) (ss:List Stp):Prop:=∀ i s,ss[i]?=some s->gI m rs (gq rs xs ss i) s=true
theorem Ei (rs:List Road) (xs:List Int) (ss:List Stp) (i:Nat):(gq rs xs ss i).length=xs.length:=by
 unfold gq;have:∀ (l:List Stp) (ys:List Int),(l.foldl (bU rs) ys).length=ys.length:=by
   intro l
   induction l with
   | nil=>intro ys;rfl
   | cons s l ih=>intro ys;rw [gB,ih,ue]
 exact this _ _
theorem P0 {rs:List Road} {xs:List Int} {ss:List Stp} {i:Nat} {s:Stp} (h:ss[i]?=some s):gq rs xs ss (i+1)=bU rs (gq rs xs ss i) s:=by
 unfold gq;rw [b4,h,List.foldl_append]
 rfl
theorem Pn (rs:List Road) (xs:List Int) (ss:List Stp):gq rs xs ss 0=xs:=by unfold gq;rw [dJ];rfl
theorem wc {m:Int} {rs:List Road} {s:Stp} (h:mW m rs s=true):(0<=s.1/\s.1<m)/\s.2.1∈m9 m rs s.1/\1<=s.2.2:=by
 unfold mW at h;rw [bn,bn,bn] at h;exact ⟨⟨bP h.1.1.1,bP h.1.1.2⟩,bP h.1.2,bP h.2⟩
theorem qX {m:Int} {rs:List Road} (g:Good m rs) {a b:Int} (h:Adj rs a b):∃ k,bM rs a b=some k/\2<=k/\k<=1000000:=by
 obtain ⟨x,hx,j⟩:=h;obtain ⟨i,hi⟩:=cg hx;have ok:=g.ok x hx;have jj:sd x a b:=j;rw [wE g hi jj];unfold g8;by_cases c:x.a=a/\x.b=b
 . rw [ag c];exact ⟨_,rfl,ok.t0,ok.t1⟩
 . rw [aa c];have c2:x.a=b/\x.b=a:=by
     rcases jj with w|w
     . exact absurd w c
     . exact ⟨w.2,w.1⟩
   rw [ag c2];exact ⟨_,rfl,ok.u0,ok.u1⟩
theorem GB {m:Int} {rs:List Road} (g:Good m rs) {s:Stp} (h:mW m rs s=true):∃ k,bM rs s.1 s.2.1=some k/\d9 rs s.1 s.2.1=k/\(2<=k/\k<=1000000)/\(0<=s.2.1/\s.2.1<m):=by
 obtain ⟨h1,h2,h3⟩:=wc h;have ad:=(jS g).mp h2;obtain ⟨k,e,r⟩:=qX g ad;exact ⟨k,e,by unfold d9;rw [e];rfl,r,(g.adj ad).2.1⟩
def dSt (s:Stp):PyData:=.tuple [.int s.1,.int s.2.1,.int s.2.2]
theorem DX {K:PySem.W.Frag} {H:Hp}:∀ {qs:List Addr} {ss:List Stp},StepsAt H qs ss->DeepAll K H (qs.map V.ref) (ss.map dSt)
 | _,_,.nil=>.nil
 | _,_,.cons x xs=>.cons (.tup (SqT.of x) (.cons (.int _) (.cons (.int _) (.cons (.int _) .nil)))) (DX xs)
theorem MX:∀ ss:List Stp,PyData.eqvAll (ss.map dSt) (ss.map dSt)=true
 | []=>by simp [PyData.eqvAll]
 | r::rs=>by
   rw [aK];simp only [PyData.eqvAll];rw [MX rs];simp [dSt,PyData.eqv,PyData.eqvAll]
theorem GN:∀ ss:List Stp,PyData.depthAll (ss.map dSt)<=1
 | []=>by simp [PyData.depthAll]
 | r::rs=>by
   rw [aK];simp only [PyData.depthAll];have:=GN rs;have h:(dSt r).depth<=1:=by simp [dSt,PyData.depth,PyData.depthAll]
   omega
end Pb
namespace L2
open PySem PySem.Spec PyProof.Rows
def TW (i j k:Nat) (ta:TA):TS:=fun D σ H=>ta σ H fun vs H1=>∃ v w z,vs=[v,w,z]/\D.nx (((σ.set i (some v)).set j (some w)).set k (some z)) H1
end L2
namespace Pb
open L2
section
variable {m:Int} {rs:List Road} {r:Int} {par:Int->Int} {dep:Int->Nat} {held held':Int->Int} {con:Int->Int->Int}
theorem M3 {f h:Int->Int}:∀ {l:List Int},(∀ c∈l,f c<=h c)->(l.map f).sum<=(l.map h).sum
 | [],_=>bh _
 | c::l,hl=>by
   rw [aK,aK,bc,bc];have h1:=hl c aw;have h2:=M3 (l:=l) fun x hx=>hl x (ak _ hx);omega
theorem yH {f h:Int->Int} {l:List Int} (hl:∀ c∈l,f c=h c):(l.map f).sum=(l.map h).sum:=by rw [fo hl]
theorem MR {f h:Int->Int} {c0:Int}:∀ {l:List Int},l.Nodup->c0∈l->(∀ c∈l,c≠c0->f c=h c)->(l.map f).sum=(l.map h).sum+(f c0 - h c0)
 | [],_,hm,_=>by cases hm
 | c::l,nd,hm,hl=>by
   obtain ⟨n1,n2⟩:=aE.mp nd;rw [aK,aK,bc,bc];by_cases z:c=c0
   . subst z;rw [yH (f:=f) (h:=h) (l:=l) fun x hx=>hl x (ak _ hx) fun w=>n1 (w ▸ hx)];omega
   . have hm':c0∈l:=by
       rcases az.mp hm with w|w
       . exact absurd w.symm z
       . exact w
     rw [hl c aw z,MR n2 hm' fun x hx=>hl x (ak _ hx)];omega
structure Chg (m:Int) (r:Int) (par:Int->Int) (held held':Int->Int) (c0 dc dp:Int):Prop where
 rng:0<=c0/\c0<m
 nr:c0≠r
 own:held' c0=held c0+dc
 up:held' (par c0)=held (par c0)+dp
 oth:∀ v,0<=v->v<m->v≠c0->v≠par c0->held' v=held v
theorem Chg.deep (g:Good m rs) (R:Rooted m rs r par dep) {c0 dc dp:Int} (C:Chg m r par held held' c0 dc dp):∀ (n:Nat) (v:Int),m.toNat - dep v=n->0<=v->v<m->dep c0<dep v->gat m rs r par dep held' con v=gat m rs r par dep held con v:=by
 intro n
 induction n using Nat.strongRecOn with
 | _ n ih =>
   intro v hn v0 v1 hd;have dc0:=R.pos C.rng.1 C.rng.2 C.nr;rw [g3 g R v0 v1,g3 g R v0 v1,C.oth v v0 v1 (fun z=>by rw [z] at hd;omega) (fun z=>by rw [z] at hd;omega)]
   congr 1
   refine yH fun c hc=>?_;obtain ⟨w1,w2,w3⟩:=(dQ g R v0 v1).mp hc;have dk:=R.pos w1.1 w1.2 w2;have dl:=EG R w1.1 w1.2;rw [w3] at dk;rw [ih (m.toNat - dep c) (by omega) c rfl w1.1 w1.2 (by omega)]
theorem Chg.at (g:Good m rs) (R:Rooted m rs r par dep) {c0 dc dp:Int} (C:Chg m r par held held' c0 dc dp):gat m rs r par dep held' con c0=gat m rs r par dep held con c0+dc:=by
 rw [g3 g R C.rng.1 C.rng.2,g3 g R C.rng.1 C.rng.2,C.own];have:((bA m rs (front r par c0) c0).map fun c=>con c (gat m rs r par dep held' con c)).sum=((bA m rs (front r par c0) c0).map fun c=>con c (gat m rs r par dep held con c)).sum:=by
   refine yH fun c hc=>?_;obtain ⟨w1,w2,w3⟩:=(dQ g R C.rng.1 C.rng.2).mp hc;have dk:=R.pos w1.1 w1.2 w2;rw [w3] at dk;rw [C.deep g R _ c rfl w1.1 w1.2 (by omega)]
 rw [this];omega
theorem Chg.side (g:Good m rs) (R:Rooted m rs r par dep) {c0 dc dp:Int} (C:Chg m r par held held' c0 dc dp) {v:Int} (v0:0<=v) (v1:v<m) (hd:dep v=dep c0) (hv:v≠c0):gat m rs r par dep held' con v=gat m rs r par dep held con v:=by
 have dc0:=R.pos C.rng.1 C.rng.2 C.nr;rw [g3 g R v0 v1,g3 g R v0 v1,C.oth v v0 v1 hv (fun z=>by rw [z] at hd;omega)]
 congr 1
 refine yH fun c hc=>?_;obtain ⟨w1,w2,w3⟩:=(dQ g R v0 v1).mp hc;have dk:=R.pos w1.1 w1.2 w2;rw [w3] at dk;rw [C.deep g R _ c rfl w1.1 w1.2 (by omega)]
theorem Chg.ahead (g:Good m rs) (R:Rooted m rs r par dep) {c0 dc dp:Int} (C:Chg m r par held held' c0 dc dp):gat m rs r par dep held' con (par c0)=gat m rs r par dep held con (par c0)+(dp+con c0 (gat m rs r par dep held con c0+dc) - con c0 (gat m rs r par dep held con c0)):=by
 have u:=R.up c0 C.rng.1 C.rng.2 C.nr;rw [g3 g R u.1.1 u.1.2,g3 (held:=held) g R u.1.1 u.1.2,C.up];have:=MR (c0:=c0) (f:=fun c=>con c (gat m rs r par dep held' con c)) (h:=fun c=>con c (gat m rs r par dep held con c)) (l:=bA m rs (front r par (par c0)) (par c0)) uX ((dQ g R u.1.1 u.1.2).mpr ⟨C.rng,C.nr,rfl⟩) fun c hc hne=>by
   obtain ⟨w1,w2,w3⟩:=(dQ g R u.1.1 u.1.2).mp hc;have dk:=R.pos w1.1 w1.2 w2;have dc0:=R.pos C.rng.1 C.rng.2 C.nr;rw [w3] at dk;show con c _=con c _;rw [C.side g R w1.1 w1.2 (by omega) hne]
 rw [this,C.at g R];omega
theorem Chg.le (g:Good m rs) (R:Rooted m rs r par dep) (hc:∀ v x y,x<=y->con v x<=con v y) {c0 dc dp:Int} (C:Chg m r par held held' c0 dc dp) (key:dp+con c0 (gat m rs r par dep held con c0+dc)<=con c0 (gat m rs r par dep held con c0)):∀ (n:Nat) (v:Int),dep c0 - dep v=n->0<=v->v<m->v≠c0->gat m rs r par dep held' con v<=gat m rs r par dep held con v:=by
 intro n
 induction n with
 | zero =>
   intro v hn v0 v1 hv;by_cases z:dep v=dep c0
   . exact Int.le_of_eq (C.side g R v0 v1 z hv)
   . exact Int.le_of_eq (C.deep g R _ v rfl v0 v1 (by omega))
 | succ n ih =>
   intro v hn v0 v1 hv;by_cases z:v=par c0
   . rw [z,C.ahead g R];omega
   . rw [g3 g R v0 v1,g3 (held:=held) g R v0 v1,C.oth v v0 v1 hv z];have:=M3 (f:=fun c=>con c (gat m rs r par dep held' con c)) (h:=fun c=>con c (gat m rs r par dep held con c)) (l:=bA m rs (front r par v) v) fun c hk=>by
       obtain ⟨w1,w2,w3⟩:=(dQ g R v0 v1).mp hk;have dk:=R.pos w1.1 w1.2 w2;rw [w3] at dk;exact hc c _ _ (ih c (by omega) w1.1 w1.2 fun w=>z (by rw [<- w,w3]))
     omega
theorem Chg.eq (g:Good m rs) (R:Rooted m rs r par dep) {c0 dc dp:Int} (C:Chg m r par held held' c0 dc dp) (key:dp+con c0 (gat m rs r par dep held con c0+dc)=con c0 (gat m rs r par dep held con c0)):∀ (n:Nat) (v:Int),dep c0 - dep v=n->0<=v->v<m->v≠c0->gat m rs r par dep held' con v=gat m rs r par dep held con v:=by
 intro n
 induction n with
 | zero =>
   intro v hn v0 v1 hv;by_cases z:dep v=dep c0
   . exact C.side g R v0 v1 z hv
   . exact C.deep g R _ v rfl v0 v1 (by omega)
 | succ n ih =>
   intro v hn v0 v1 hv;by_cases z:v=par c0
   . rw [z,C.ahead g R];omega
   . rw [g3 g R v0 v1,g3 (held:=held) g R v0 v1,C.oth v v0 v1 hv z]
     congr 1
     refine yH fun c hk=>?_;obtain ⟨w1,w2,w3⟩:=(dQ g R v0 v1).mp hk;have dk:=R.pos w1.1 w1.2 w2;rw [w3] at dk;rw [ih c (by omega) w1.1 w1.2 fun w=>z (by rw [<- w,w3])]
theorem Eb (g:Good m rs) (R:Rooted m rs r par dep) {xs:List Int} (xl:(xs.length:Int)=m) {s:Stp} (is:mW m rs s=true) :
   (s.1≠r/\par s.1=s.2.1/\Chg m r par (fun v=>xs.getD v.toNat 0) (fun v=>(bU rs xs s).getD v.toNat 0) s.1 (-(s.2.2*d9 rs s.1 s.2.1)) s.2.2) \/
   (s.2.1≠r/\par s.2.1=s.1/\Chg m r par (fun v=>xs.getD v.toNat 0) (fun v=>(bU rs xs s).getD v.toNat 0) s.2.1 s.2.2 (-(s.2.2*d9 rs s.1 s.2.1))):=by
 obtain ⟨ar,nb,n1⟩:=wc is;have ad:=(jS g).mp nb;have br:=(g.adj ad).2.1;have ab:=(g.adj ad).2.2;have ga:(bU rs xs s).getD s.1.toNat 0=xs.getD s.1.toNat 0 + -(s.2.2*d9 rs s.1 s.2.1):=by
   unfold bU;rw [ni _ _ _ _ (by rw [bN];omega),aa (by omega),ni _ _ _ _ (by omega),ag rfl];omega
 have gb:(bU rs xs s).getD s.2.1.toNat 0=xs.getD s.2.1.toNat 0+s.2.2:=by
   unfold bU;rw [ni _ _ _ _ (by rw [bN];omega),ag rfl,ni _ _ _ _ (by omega),aa (by omega)]
 have go:∀ v:Int,0<=v->v≠s.1->v≠s.2.1->(bU rs xs s).getD v.toNat 0=xs.getD v.toNat 0:=fun v v0 h1 h2=>by
   unfold bU;rw [ni _ _ _ _ (by rw [bN];omega),aa (by omega),ni _ _ _ _ (by omega),aa (by omega)]
 rcases R.adj ad with ⟨h1,h2⟩|⟨h1,h2⟩
 . exact .inr ⟨h1,h2,br,h1,gb,by rw [h2];exact ga,fun v v0 _ w1 w2=>go v v0 (by rw [h2] at w2;exact w2) w1⟩
 . exact .inl ⟨h1,h2,ar,h1,ga,by rw [h2];exact gb,fun v v0 _ w1 w2=>go v v0 w1 (by rw [h2] at w2;exact w2)⟩
end
end Pb
namespace Pb
open L2 PySem
theorem DZ {m:Int} {rs:List Road} {xs:List Int} {s:Stp} (h:gI m rs xs s=true):mW m rs s=true/\s.2.2*d9 rs s.1 s.2.1<=xs.getD s.1.toNat 0:=by
 unfold gI at h;rw [bn] at h;exact ⟨h.1,bP h.2⟩
theorem Uo {m:Int} {rs:List Road} (g:Good m rs) {xs:List Int} (xl:(xs.length:Int)=m) (x0:∀ x∈xs,0<=x) {s:Stp} (h:gI m rs xs s=true):∀ x∈bU rs xs s,0<=x:=by
 obtain ⟨is,le⟩:=DZ h;obtain ⟨ar,nb,n1⟩:=wc is;have h1:∀ x∈xs.set s.1.toNat (xs.getD s.1.toNat 0 - s.2.2*d9 rs s.1 s.2.1),0<=x:=yU x0 (by omega);unfold bU;exact yU h1 (by have:=M8 h1 s.2.1.toNat;omega)
end Pb
namespace Pb
open L2 PySem
section
variable {m:Int} {rs:List Road}
theorem Go:∀ (l:List Int) (i:Nat) (v:Int),i<l.length->(l.set i v).sum=l.sum - l.getD i 0+v
 | [],i,v,h=>by simp at h
 | a::l,0,v,_=>by simp;omega
 | a::l,i+1,v,h=>by
   have ih:=Go l i v (by simpa using h);have e:(a::l).getD (i+1) 0=l.getD i 0:=by simp [List.getD]
   rw [jH,bc,bc,ih,e];omega
end
def AtX (c:Bool) (H:Hp) (a:Addr) (xs:List V):Prop:=H a=some (if c then .lst xs else .tup xs)
theorem AtX.sq {K:PySem.W.Frag} {c:Bool} {H:Hp} {a:Addr} {xs:List V} (h:AtX c H a xs):SqX K c H a xs:=by
 cases c
 . exact SqT.of h
 . exact SqL.of h
end Pb
namespace L2
open PySem PySem.Spec PyProof.Rows
section
variable {X:Cx} {i o:Expr} {ty td:TE}
def TJ (ty td:TE):TE:=fun σ H Q=>ty σ H fun y H1=>td σ H1 fun x H2=>∃ a,x=.ref a/\((∃ o,DGet H2 a y o/\Q (.bl o.isSome) H2)\/(y=.non/\(∃ kvs,H2 a=some (.dK kvs))/\Q (.bl false) H2))
end
end L2
namespace L2
theorem f8 {A B:TS} {D:Ends} {σ:St} {H:Hp} (h:∀ N:St->Hp->Prop,(∀ σ' H',B D σ' H'->N σ' H')->A { D with nx:=N } σ H):OI A B D σ H:=h (B D) fun _ _ z=>z
theorem T2 {c:TT} {A B:TS} {D:Ends} {σ:St} {H:Hp} (h:∀ NA NB:St->Hp->Prop,(∀ σ' H',A D σ' H'->NA σ' H')->(∀ σ' H',B D σ' H'->NB σ' H')->Ki c (fun _=>NA) (fun _=>NB) D σ H):Ki c A B D σ H:=h (A D) (B D) (fun _ _ z=>z) fun _ _ z=>z
end L2
namespace L2
open PySem
theorem BJ {K:PySem.W.Frag} {a:Addr} {xs:List V} {g:TG} {tb:TS} {D:Ends} {σ:St} {H:Hp} (Pv:Nat->St->Hp->Prop) (h0:Pv 0 σ H) (hl:∀ i σ H,i<=xs.length->Pv i σ H->SqL K H a xs)
   (hs:∀ (i:Nat) (x:V) (σ:St) (H:Hp) (N B:St->Hp->Prop),(∀ σ H,(g x σ H fun σ2 H2=>tb { D with nx:=N,ct:=N,bk:=D.nx } σ2 H2)->B σ H)->(∀ σ' H',Pv (i+1) σ' H'->N σ' H')->xs[i]?=some x->Pv i σ H->B σ H)
   (hd:∀ (B:St->Hp->Prop) σ H,(∀ σ H,D.nx σ H->B σ H)->Pv xs.length σ H->B σ H):wQ (Itl K a) D g tb σ H :=
 wZ Pv h0 hl (fun i x σ H N hN hx p=>hs i x σ H N (fun σ H=>g x σ H fun σ2 H2=>tb { D with nx:=N,ct:=N,bk:=D.nx } σ2 H2) (fun _ _ z=>z) hN hx p) fun σ H p=>hd (fun σ H=>D.nx σ H) σ H (fun _ _ z=>z) p
theorem MW {c:TT} {tb:TS} {D:Ends} {σ:St} {H:Hp} (W:Nat->St->Hp->Prop) (n0:Nat) (h0:W n0 σ H)
   (hs:∀ (n:Nat) (σ:St) (H:Hp) (N:St->Hp->Prop) (B:Nat->St->Hp->Prop),(∀ n σ H,(c σ H fun b H1=>if b=true then ∃ N:St->Hp->Prop,(∀ σ' H',N σ' H'->∃ m',m'<n/\W m' σ' H')/\tb { D with nx:=N,ct:=N,bk:=D.nx } σ H1 else D.nx σ H1)->B n σ H)->(∀ n' σ' H',n'<n->W n' σ' H'->N σ' H')->(∀ σ' H',N σ' H'->∃ m',m'<n/\W m' σ' H')->W n σ H->B n σ H):JS c tb D σ H :=
 F9 W n0 h0 fun n σ H N hN hN2 w=>hs n σ H N (fun n σ H=>c σ H fun b H1=>if b=true then ∃ N:St->Hp->Prop,(∀ σ' H',N σ' H'->∃ m',m'<n/\W m' σ' H')/\tb { D with nx:=N,ct:=N,bk:=D.nx } σ H1 else D.nx σ H1) (fun _ _ _ z=>z) hN hN2 w
theorem ex6 {α0:Sort _} {α1:Sort _} {α2:Sort _} {α3:Sort _} {α4:Sort _} {α5:Sort _} {P:α0->α1->α2->α3->α4->α5->Prop} (a0:α0) (a1:α1) (a2:α2) (a3:α3) (a4:α4) (a5:α5) (h:P a0 a1 a2 a3 a4 a5):∃ a0 a1 a2 a3 a4 a5,P a0 a1 a2 a3 a4 a5:=⟨a0,a1,a2,a3,a4,a5,h⟩
theorem an4 {p0 p1 p2 p3:Prop} (h0:p0) (h1:p1) (h2:p2) (h3:p3):p0/\p1/\p2/\p3:=⟨h0,h1,h2,h3⟩
end L2
namespace Pb
open PySem L2
def vPr (r:Int) (par:Int->Int) (v:Int):List V:=[.int v,front r par v]
abbrev PrsAt (H:Hp) (r:Int) (par:Int->Int):List Addr->List Int->Prop:=Paired fun q v=>H q=some (.tup (vPr r par v))
theorem PrsAt.same {H H':Hp} {r:Int} {par:Int->Int} {qs:List Addr} {vs:List Int} (e:Same H H') (h:PrsAt H r par qs vs):PrsAt H' r par qs vs:=Paired.imp' (fun q v x=>e q _ x) h
theorem PrsAt.get {H:Hp} {r:Int} {par:Int->Int}:∀ {ps:List Addr} {vs:List Int} {i:Nat} {x:V},PrsAt H r par ps vs->(ps.map V.ref)[i]?=some x->∃ p v,x=.ref p/\ps[i]?=some p/\vs[i]?=some v/\H p=some (.tup (vPr r par v))
 | _,_,i,x,.nil,e=>by simp at e
 | _,_,0,x,.cons (a:=p) (b:=r) h hs,e=>⟨p,r,by simpa using e.symm,by simp,by simp,h⟩
 | a::l1,_,i+1,x,.cons h hs,e=>by
   have e':(List.map V.ref l1)[i]?=some x:=by simpa using e
   obtain ⟨p,r,h1,h2,h3,h4⟩:=PrsAt.get hs e';exact ⟨p,r,h1,by simpa using h2,by simpa using h3,h4⟩
theorem PrsAt.snoc {H:Hp} {r:Int} {par:Int->Int} {q:Addr} {v:Int} (e:H q=some (.tup (vPr r par v))):∀ {qs:List Addr} {vs:List Int},PrsAt H r par qs vs->PrsAt H r par (qs++[q]) (vs++[v])
 | _,_,.nil=>.cons e .nil
 | _,_,.cons x xs=>.cons x (PrsAt.snoc e xs)
end Pb
set_option exponentiation.threshold 5000
namespace Pb
open L2 PySem
section
variable {m:Int} {rs:List Road} {r:Int} {par:Int->Int} {dep:Int->Nat}
variable {op:Int->Int->Int} {held:Int->Int} {con:Int->Int->Int}
theorem Order.perm_len {t:List Int} (O:Order m r par t) (r0:0<=r) (r1:r<m):t.length+1=m.toNat:=by
 have h:=(qR O.nd (nZ m.toNat) fun x=>by
   rw [az,iM];refine ⟨fun h=>?_,fun h=>O.all x h.1 (by have:=h.2;omega)⟩;rcases h with h|h
   . rw [h];exact ⟨r0,by omega⟩
   . have:=O.rng x h;exact ⟨this.1,by omega⟩).length_eq
 rw [dq,aL] at h;exact h
end
end Pb
namespace L2
open PySem PySem.Spec PyProof.Rows
theorem C6 (f:Nat->Int):∀ n,argBest (fun i j=>decide (f i<f j)) n<=n/\∀ i,i<=n->f (argBest (fun i j=>decide (f i<f j)) n)<=f i
 | 0=>⟨aI _,fun i h=>by rw [show i=0 by omega];exact bh _⟩
 | n+1=>by
   obtain ⟨h1,h2⟩:=C6 f n;show (if decide (f (n+1)<f (argBest (fun i j=>decide (f i<f j)) n))=true then n+1 else argBest (fun i j=>decide (f i<f j)) n)<=n+1/\∀ i,i<=n+1->f (if decide (f (n+1)<f (argBest (fun i j=>decide (f i<f j)) n))=true then n+1 else argBest (fun i j=>decide (f i<f j)) n)<=f i;by_cases c:f (n+1)<f (argBest (fun i j=>decide (f i<f j)) n)
   . rw [ag (aW c)];refine ⟨aI _,fun i h=>?_⟩;by_cases z:i=n+1
     . rw [z];exact bh _
     . have:=h2 i (by omega);omega
   . rw [aa (by simpa using c)];refine ⟨by omega,fun i h=>?_⟩;by_cases z:i=n+1
     . rw [z];omega
     . exact h2 i (by omega)
section
variable {X:Cx} {x:Str} {p pos kpos:Pos} {e de:Expr} {t tk:TA}
def TR (K:PySem.W.Frag) (t tk:TA):TE:=fun σ H Q=>t σ H fun vs H1=>tk σ H1 fun zs H2=>∃ (q:Addr) (ns:List Int) (d:V),vs=[.ref q]/\zs=[d]/\SqL K H2 q (ns.map V.int)/\ns≠[]/\∀ y,y∈ns->(∀ x∈ns,y<=x)->Q (.int y) H2
def TN (t:TE):TE:=fun σ H Q=>t σ H fun x H1=>∃ b,x=.bl b/\Q (.bl (b != true)) H1
end
end L2
namespace L2
open PySem PySem.Spec PyProof.Rows PySem.W
section
variable {n:Nat}
variable (hn:0<n)
include hn
end
end L2
namespace L2
theorem Kd {κ:Type} [DecidableEq κ] {kvs:List (κ × V)} {k:κ} {v:V} {p:κ × V} (h:p∈ip kvs k v):p.1=k\/∃ q∈kvs,p.1=q.1:=by
 unfold ip at h;split at h
 . obtain ⟨q,hq,e⟩:=aY.mp h;refine .inr ⟨q,hq,?_⟩;rw [<- e];split <;> rfl
 . rcases aQ.mp h with h|h
   . exact .inr ⟨p,h,rfl⟩
   . rw [aB.mp h];exact .inl rfl
end L2
namespace Pb
open L2 PySem
section
variable {m:Int} {rs:List Road} {r:Int} {par:Int->Int} {dep:Int->Nat}
theorem Eh (g:Good m rs) (v x y:Int) (h:x<=y):hnd rs par v x<=hnd rs par v y:=by
 have pos:∀ a b:Int,0<(bM rs a b).getD 1:=fun a b=>by
   cases e:bM rs a b with
   | none=>decide
   | some k =>
     obtain ⟨k',e',h2,_⟩:=qX g (vO.mp (show (bM rs a b).isSome=true by rw [e];rfl));rw [e] at e';cases e';show 0<k;omega
 have p1:=pos v (par v);have p2:=pos (par v) v;unfold hnd;by_cases c:0<=x
 . rw [ag c,ag (by omega)];exact Int.ediv_le_ediv p1 h
 . rw [aa c];by_cases c2:0<=y
   . rw [ag c2];have a1:0<=y / (bM rs v (par v)).getD 1:=mq c2 (by omega);have a2:x*(bM rs (par v) v).getD 1<=0:=eP (by omega) (by omega);omega
   . rw [aa c2];exact fL h (by omega)
theorem IE {x n k k':Int} (n0:1<=n) (k2:2<=k) (k2':2<=k'):(n+(if 0<=x + -(n*k) then (x + -(n*k)) / k else (x + -(n*k))*k')<=if 0<=x then x / k else x*k') /\
   (-(n*k)+(if 0<=x+n then (x+n) / k' else (x+n)*k)<=if 0<=x then x / k' else x*k):=by
 have nk:n*2<=n*k:=d6 k2 (by omega);have nk':n*2<=n*k':=d6 k2' (by omega)
 constructor
 . by_cases c1:0<=x + -(n*k)
   . rw [ag c1,ag (by omega),<- qw,ij _ _ (by omega)];omega
   . rw [aa c1];by_cases c2:0<=x
     . rw [ag c2];have q1:=Int.mul_ediv_add_emod x k;have q2:=bO x (show 0<k by omega);have q3:=bE x (show k≠0 by omega);have q4:x / k<n:=by
         rw [Int.ediv_lt_iff_lt_mul (by omega)];omega
       have e1:k*(x / k - n)=k*(x / k) - n*k:=(by rw [Int.mul_sub,lw k n]);have e3:x + -(n*k)<=k*(x / k - n+1) - 1:=by
         have:k*(x / k - n+1)=k*(x / k - n)+k:=(by rw [Int.mul_add,Int.mul_one]);omega
       have e4:k*(x / k - n+1)<=2*(x / k - n+1):=by
         have:=Int.mul_le_mul_of_nonpos_right k2 (show x / k - n+1<=0 by omega);omega
       have e5:x + -(n*k)<=(x / k - n):=(by omega);have e6:(x + -(n*k))*k'<=(x / k - n)*k':=fL e5 (by omega);have e7:(x / k - n)*k'<=(x / k - n)*1:=iY (show x / k - n<=0 by omega) (show 1<=k' by omega);omega
     . rw [aa c2];have e1:(x + -(n*k))*k'=x*k' + -(n*k)*k':=l5 ..;have e2:-(n*k)*k'<=-(n*k)*1:=iY (show -(n*k)<=0 by omega) (show 1<=k' by omega);omega
 . by_cases c1:0<=x
   . rw [ag c1,ag (by omega)];have a1:(x+n) / k'<=(x+n*k') / k':=Int.ediv_le_ediv (by omega) (by omega);rw [ij _ _ (by omega)] at a1;omega
   . rw [aa c1];by_cases c2:0<=x+n
     . rw [ag c2];have a1:(x+n) / k'<=x+n:=Int.ediv_le_self _ c2;have a2:(-x)*2<=(-x)*k:=d6 k2 (by omega);have a3:(n+x)*2<=(n+x)*k:=d6 k2 (by omega);have a4:(n+x)*k=n*k+x*k:=l5 ..;omega
     . rw [aa c2,l5];omega
theorem Qj (g:Good m rs) (R:Rooted m rs r par dep) (r0:0<=r) (r1:r<m) {xs ys:List Int} (xl:(xs.length:Int)=m) {s:Stp} (is:mW m rs s=true) :
   gat m rs r par dep (fun v=>(cx m (bU rs xs s) ys).getD v.toNat 0) (hnd rs par) r<=gat m rs r par dep (fun v=>(cx m xs ys).getD v.toNat 0) (hnd rs par) r:=by
 obtain ⟨ar,nb,n1⟩:=wc is;have ad:=(jS g).mp nb;have br:=(g.adj ad).2.1;obtain ⟨k,ek,k0,k1⟩:=qX g ad;obtain ⟨k',ek',k0',k1'⟩:=qX g ad.symm;have td:d9 rs s.1 s.2.1=k:=by unfold d9;rw [ek];rfl
 have ov:∀ (zs:List Int) (v:Int),0<=v->v<m->(cx m zs ys).getD v.toNat 0=zs.getD v.toNat 0 - ys.getD v.toNat 0:=fun zs v v0 v1=>by
   unfold cx;rw [List.getD,aP,jC (by omega)]
   rfl
 have cv:∀ {c dc dp:Int},0<=par c/\par c<m->Chg m r par (fun v=>xs.getD v.toNat 0) (fun v=>(bU rs xs s).getD v.toNat 0) c dc dp->Chg m r par (fun v=>(cx m xs ys).getD v.toNat 0) (fun v=>(cx m (bU rs xs s) ys).getD v.toNat 0) c dc dp:=fun {c dc dp} pr C=>by
   refine ⟨C.rng,C.nr,?_,?_,fun v v0 v1 w1 w2=>?_⟩
   . show (cx m (bU rs xs s) ys).getD c.toNat 0=(cx m xs ys).getD c.toNat 0+dc;rw [ov _ c C.rng.1 C.rng.2,ov _ c C.rng.1 C.rng.2];have:=C.own;omega
   . show (cx m (bU rs xs s) ys).getD (par c).toNat 0=(cx m xs ys).getD (par c).toNat 0+dp;rw [ov _ _ pr.1 pr.2,ov _ _ pr.1 pr.2];have:=C.up;omega
   . show (cx m (bU rs xs s) ys).getD v.toNat 0=(cx m xs ys).getD v.toNat 0;rw [ov _ v v0 v1,ov _ v v0 v1];have:=C.oth v v0 v1 w1 w2;omega
 rcases Eb g R xl is with ⟨h1,h2,C⟩|⟨h1,h2,C⟩
 . refine (cv (by rw [h2];exact br) C).le g R (Eh g) ?_ _ r rfl r0 r1 fun z=>h1 z.symm;unfold hnd;rw [h2,ek,ek',td];exact (IE n1 k0 k0').1
 . refine (cv (by rw [h2];exact ar) C).le g R (Eh g) ?_ _ r rfl r0 r1 fun z=>h1 z.symm;unfold hnd;rw [h2,ek,ek',td];exact (IE n1 k0 k0').2
theorem FN {zs ys:List Int} (i:Nat):(cx m zs ys).getD i 0=if i<m.toNat then zs.getD i 0 - ys.getD i 0 else 0:=by
 unfold cx;by_cases c:i<m.toNat
 . rw [ag c,List.getD,aP,jC c]
   rfl
 . rw [aa c,List.getD,aP,cG (by rw [fT];omega)]
   rfl
end
def rZ (m:Int) (rs:List Road) (PAR:Int->Int->Int) (DEP:Int->Int->Nat) (xs ys:List Int) (i:Nat):List Int:=(below i).map fun r=>gat m rs r (PAR r) (DEP r) (fun v=>(cx m xs ys).getD v.toNat 0) (hnd rs (PAR r)) r
theorem En {m:Int} {rs:List Road} {PAR:Int->Int->Int} {DEP:Int->Int->Nat} {xs ys:List Int} {i:Nat}:(rZ m rs PAR DEP xs ys i).length=i:=by unfold rZ;rw [ai,dq]
theorem IR {m:Int} {rs:List Road} {PAR:Int->Int->Int} {DEP:Int->Int->Nat} {xs ys:List Int} {i j:Nat} (h:j<i):(rZ m rs PAR DEP xs ys i).getD j 0=gat m rs j (PAR j) (DEP j) (fun v=>(cx m xs ys).getD v.toNat 0) (hnd rs (PAR j)) j:=by
 unfold rZ;rw [List.getD,aP,o9 h]
 rfl
end Pb
namespace L2
open PySem PySem.Spec PyProof.Rows
def Qf (tk tv:TE):TE:=fun σ H Q=>∀ p,H p=none->yu [(tk,tv)] σ (upd H p (.dT [])) fun ps H2=>H2 p=some (.dT [])/\∃ (k:List Key) (b:Addr) (y:V),ps=[(.ref b,y)]/\H2 b=some (.tup (k.map kV))/\Q (.ref p) (upd H2 p (.dT [(k,y)]))
end L2
namespace Pb
open L2 PySem
inductive Come (m:Int) (rs:List Road) (xs:List Int):List Int->Prop
 | start:Come m rs xs xs
 | step {z:List Int} {a b:Int}:Come m rs xs z->gI m rs z (a,b,1)=true->Come m rs xs (bU rs z (a,b,1))
theorem yL:∀ {z:List Int},(∀ x∈z,0<=x)->0<=z.sum
 | [],_=>bh 0
 | x::z,h=>by
   have h1:=h x (.head _);have h2:=yL fun y hy=>h y (.tail _ hy);rw [bc];omega
end Pb
namespace Pb
open L2 PySem
section
variable {m:Int} {rs:List Road} {xs:List Int}
theorem Come.len {z:List Int} (h:Come m rs xs z):z.length=xs.length:=by
 induction h with
 | start=>rfl
 | step _ _ ih=>rw [ue];exact ih
variable {r:Int} {par:Int->Int} {dep:Int->Nat}
end
end Pb
namespace Pb
open L2 PySem
theorem J7 {P:Int->Prop} (f:Int->Nat):∀ (n:Nat) (v:Int),f v=n->P v->∃ v,P v/\∀ u,P u->f v<=f u:=by
 intro n
 induction n using Nat.strongRecOn with
 | _ n ih =>
   intro v hn hp;by_cases c:∃ u,P u/\f u<f v
   . obtain ⟨u,h1,h2⟩:=c;exact ih (f u) (by omega) u rfl h1
   . exact ⟨v,hp,fun u hu=>Nat.le_of_not_lt fun h=>c ⟨u,hu,h⟩⟩
theorem II:∀ {l:List Int},(∀ x∈l,x<=0)->l.sum<=0
 | [],_=>bh 0
 | x::l,h=>by
   have h1:=h x (.head _);have h2:=II fun y hy=>h y (.tail _ hy);rw [bc];omega
theorem G1:∀ {l:List Int} {y:Int},(∀ x∈l,x<=0)->y∈l->l.sum<=y
 | x::l,y,h,hy=>by
   have h1:=h x (.head _);have h2:=II fun y hy=>h y (.tail _ hy);rw [bc];rcases az.mp hy with e|e
   . omega
   . have:=G1 (fun y hy=>h y (.tail _ hy)) e;omega
theorem C9:∀ {l:List Int},(∀ x∈l,x=0)->l.sum=0
 | [],_=>rfl
 | x::l,h=>by rw [bc,h x (.head _),C9 fun y hy=>h y (.tail _ hy)];rfl
section
variable {m:Int} {rs:List Road} {r:Int} {par:Int->Int} {dep:Int->Nat}
abbrev stg (m:Int) (rs:List Road) (r:Int) (par:Int->Int) (dep:Int->Nat) (ys z:List Int) (v:Int):Int:=gat m rs r par dep (fun v=>(cx m z ys).getD v.toNat 0) (hnd rs par) v
theorem Cj (g:Good m rs) (R:Rooted m rs r par dep) {ys z:List Int} {v:Int} (v0:0<=v) (v1:v<m):stg m rs r par dep ys z v=z.getD v.toNat 0 - ys.getD v.toNat 0+((bA m rs (front r par v) v).map fun c=>hnd rs par c (stg m rs r par dep ys z c)).sum:=by
 show gat m rs r par dep _ _ v=_;rw [g3 g R v0 v1];show (cx m z ys).getD v.toNat 0+_=_;rw [FN,ag (by omega)]
theorem Jx {xs ys:List Int} {s:Stp} {c dc dp:Int} (pr:0<=par c/\par c<m) (C:Chg m r par (fun v=>xs.getD v.toNat 0) (fun v=>(bU rs xs s).getD v.toNat 0) c dc dp):Chg m r par (fun v=>(cx m xs ys).getD v.toNat 0) (fun v=>(cx m (bU rs xs s) ys).getD v.toNat 0) c dc dp:=by
 have ov:∀ (zs:List Int) (v:Int),0<=v->v<m->(cx m zs ys).getD v.toNat 0=zs.getD v.toNat 0 - ys.getD v.toNat 0:=fun zs v v0 v1=>by
   rw [FN,ag (by omega)]
 refine ⟨C.rng,C.nr,?_,?_,fun v v0 v1 w1 w2=>?_⟩
 . show (cx m (bU rs xs s) ys).getD c.toNat 0=(cx m xs ys).getD c.toNat 0+dc;rw [ov _ c C.rng.1 C.rng.2,ov _ c C.rng.1 C.rng.2];have:=C.own;omega
 . show (cx m (bU rs xs s) ys).getD (par c).toNat 0=(cx m xs ys).getD (par c).toNat 0+dp;rw [ov _ _ pr.1 pr.2,ov _ _ pr.1 pr.2];have:=C.up;omega
 . show (cx m (bU rs xs s) ys).getD v.toNat 0=(cx m xs ys).getD v.toNat 0;rw [ov _ v v0 v1,ov _ v v0 v1];have:=C.oth v v0 v1 w1 w2;omega
theorem P7 (g:Good m rs) (R:Rooted m rs r par dep) (r0:0<=r) (r1:r<m) {z ys:List Int} (zl:(z.length:Int)=m) (y0:∀ y∈ys,0<=y) (s0:0<=stg m rs r par dep ys z r) :
   ((∀ v,0<=v->v<m->ys.getD v.toNat 0<=z.getD v.toNat 0)/\z.getD r.toNat 0 - ys.getD r.toNat 0=stg m rs r par dep ys z r)\/∃ a b,gI m rs z (a,b,1)=true/\stg m rs r par dep ys (bU rs z (a,b,1)) r=stg m rs r par dep ys z r:=by
 have yn:∀ v:Int,0<=ys.getD v.toNat 0:=fun v=>M8 y0 _;have tl:∀ v,0<=v->v<m->v≠r->∃ k k',bM rs v (par v)=some k/\bM rs (par v) v=some k'/\2<=k/\2<=k'/\(0<=par v/\par v<m)/\Adj rs v (par v)/\dep (par v)+1=dep v:=fun v v0 v1 hv=>by
   obtain ⟨u1,u2,u3⟩:=R.up v v0 v1 hv;obtain ⟨k,ek,k0,_⟩:=qX g u2;obtain ⟨k',ek',k0',_⟩:=qX g u2.symm;exact ⟨k,k',ek,ek',k0,k0',u1,u2,u3⟩
 by_cases cA:∃ v,(0<=v/\v<m/\v≠r)/\(bM rs v (par v)).getD 1<=stg m rs r par dep ys z v
 . -- the deepest place that has something to hand on
   obtain ⟨v',hv'⟩:=cA;obtain ⟨v,⟨⟨v0,v1,vr⟩,hv⟩,mx⟩:=J7 (P:=fun v=>(0<=v/\v<m/\v≠r)/\(bM rs v (par v)).getD 1<=stg m rs r par dep ys z v) (fun v=>m.toNat - dep v) _ v' rfl hv';obtain ⟨k,k',ek,ek',k0,k0',pr,ad,dp⟩:=tl v v0 v1 vr;rw [ek] at hv;have hv:k<=stg m rs r par dep ys z v:=hv;have np:∀ x∈(bA m rs (front r par v) v).map fun c=>hnd rs par c (stg m rs r par dep ys z c),x<=0:=fun x hx=>by
     obtain ⟨c,hc,rfl⟩:=aY.mp hx;obtain ⟨w1,w2,w3⟩:=(dQ g R v0 v1).mp hc;have dk:=R.pos w1.1 w1.2 w2;have dl:=EG R w1.1 w1.2;rw [w3] at dk;obtain ⟨q,q',eq,eq',q0,q0',_⟩:=tl c w1.1 w1.2 w2;have nc:¬ q<=stg m rs r par dep ys z c:=fun h=>by
       have:=mx c ⟨⟨w1.1,w1.2,w2⟩,by rw [eq];exact h⟩;omega
     unfold hnd;rw [eq,eq'];show (if 0<=stg m rs r par dep ys z c then stg m rs r par dep ys z c / q else stg m rs r par dep ys z c*q')<=0;generalize stg m rs r par dep ys z c=G at nc ⊢;by_cases c0:0<=G
     . rw [ag c0,ml c0 (by omega)];exact bh _
     . rw [aa c0];exact eP (by omega) (by omega)
   have e:=Cj g R (ys:=ys) (z:=z) v0 v1;have sp:=II np;have yv:=yn v;have td:d9 rs v (par v)=k:=by unfold d9;rw [ek];rfl
   have is:mW m rs (v,par v,1)=true:=by
     unfold mW;have nb:=(jS g).mpr ad;simp only [bn,aU];exact ⟨⟨⟨v0,v1⟩,nb⟩,by decide⟩
   refine .inr ⟨v,par v,?_,?_⟩
   . unfold gI;rw [is,ku,aU];show 1*d9 rs v (par v)<=z.getD v.toNat 0;rw [td];omega
   . rcases Eb g R zl is with ⟨h1,h2,C⟩|⟨h1,h2,C⟩
     . refine (Jx pr C).eq g R ?_ _ r rfl r0 r1 fun w=>vr w.symm;show 1+hnd rs par v (stg m rs r par dep ys z v + -(1*d9 rs v (par v)))=hnd rs par v (stg m rs r par dep ys z v);rw [td];unfold hnd;rw [ek];generalize stg m rs r par dep ys z v=G at hv ⊢;rw [ag (by omega),ag (by omega)];show 1+(G + -(1*k)) / k=G / k;rw [<- qw,ij _ _ (by omega)];omega
     . have d2:=R.pos pr.1 pr.2 h1;simp only at h2;rw [h2] at d2;omega
 . have up:∀ v,0<=v->v<m->v≠r->hnd rs par v (stg m rs r par dep ys z v)<=0/\(0<=stg m rs r par dep ys z v->hnd rs par v (stg m rs r par dep ys z v)=0):=fun v v0 v1 vr=>by
     obtain ⟨k,k',ek,ek',k0,k0',pr,ad,dp⟩:=tl v v0 v1 vr;have nc:¬ k<=stg m rs r par dep ys z v:=fun h=>cA ⟨v,⟨v0,v1,vr⟩,by rw [ek];exact h⟩;unfold hnd;rw [ek,ek'];show (if 0<=stg m rs r par dep ys z v then stg m rs r par dep ys z v / k else stg m rs r par dep ys z v*k')<=0/\(0<=stg m rs r par dep ys z v->(if 0<=stg m rs r par dep ys z v then stg m rs r par dep ys z v / k else stg m rs r par dep ys z v*k')=0);generalize stg m rs r par dep ys z v=G at nc ⊢;by_cases c0:0<=G
     . rw [ag c0,ml c0 (by omega)];exact ⟨bh _,fun _=>rfl⟩
     . rw [aa c0];exact ⟨eP (by omega) (by omega),fun h=>absurd h c0⟩
   by_cases cB:∃ v,(0<=v/\v<m/\v≠r)/\stg m rs r par dep ys z v<0
   . -- the nearest place that lacks something
     obtain ⟨v',hv'⟩:=cB;obtain ⟨v,⟨⟨v0,v1,vr⟩,hv⟩,mn⟩:=J7 (P:=fun v=>(0<=v/\v<m/\v≠r)/\stg m rs r par dep ys z v<0) dep _ v' rfl hv';obtain ⟨k,k',ek,ek',k0,k0',pr,ad,dp⟩:=tl v v0 v1 vr;have pg:0<=stg m rs r par dep ys z (par v):=by
       by_cases c:par v=r
       . rw [c];exact s0
       . refine Int.le_of_not_gt fun h=>?_;have:=mn (par v) ⟨⟨pr.1,pr.2,c⟩,h⟩;omega
     have e:=Cj g R (ys:=ys) (z:=z) pr.1 pr.2;have sp:=G1 (l:=(bA m rs (front r par (par v)) (par v)).map fun c=>hnd rs par c (stg m rs r par dep ys z c)) (y:=hnd rs par v (stg m rs r par dep ys z v)) (fun x hx=>by
       obtain ⟨c,hc,rfl⟩:=aY.mp hx;obtain ⟨w1,w2,w3⟩:=(dQ g R pr.1 pr.2).mp hc;exact (up c w1.1 w1.2 w2).1) (aY.mpr ⟨v,(dQ g R pr.1 pr.2).mpr ⟨⟨v0,v1⟩,vr,rfl⟩,rfl⟩)
     have hh:hnd rs par v (stg m rs r par dep ys z v)=stg m rs r par dep ys z v*k':=by
       unfold hnd;rw [ek',aa (by omega)]
       rfl
     have hk:stg m rs r par dep ys z v*k'<=(-1)*k':=fL (by omega) (by omega);have yv:=yn (par v);have td:d9 rs (par v) v=k':=(by unfold d9;rw [ek'];rfl);have is:mW m rs (par v,v,1)=true:=by
       unfold mW;have nb:=(jS g).mpr ad.symm;simp only [bn,aU];exact ⟨⟨⟨pr.1,pr.2⟩,nb⟩,by decide⟩
     refine .inr ⟨par v,v,?_,?_⟩
     . unfold gI;rw [is,ku,aU];show 1*d9 rs (par v) v<=z.getD (par v).toNat 0;rw [td];omega
     . rcases Eb g R zl is with ⟨h1,h2,C⟩|⟨h1,h2,C⟩
       . have d2:=R.pos pr.1 pr.2 h1;simp only at h2;rw [h2] at d2;omega
       . refine (Jx pr C).eq g R ?_ _ r rfl r0 r1 fun w=>vr w.symm;show -(1*d9 rs (par v) v)+hnd rs par v (stg m rs r par dep ys z v+1)=hnd rs par v (stg m rs r par dep ys z v);rw [td,hh];unfold hnd;rw [ek,ek'];generalize stg m rs r par dep ys z v=G at hv ⊢;show -(1*k')+(if 0<=G+1 then (G+1) / k else (G+1)*k')=G*k';by_cases c:0<=G+1
         . have:G=-1:=(by omega);subst this;rw [ag c];show -(1*k')+0 / k=-1*k';rw [Int.zero_ediv];omega
         . rw [aa c,l5];omega
   . have nn:∀ v,0<=v->v<m->0<=stg m rs r par dep ys z v:=fun v v0 v1=>by
       by_cases c:v=r
       . rw [c];exact s0
       . exact Int.le_of_not_gt fun h=>cB ⟨v,⟨v0,v1,c⟩,h⟩
     have ev:∀ v,0<=v->v<m->z.getD v.toNat 0 - ys.getD v.toNat 0=stg m rs r par dep ys z v:=fun v v0 v1=>by
       have e:=Cj g R (ys:=ys) (z:=z) v0 v1;rw [C9 fun x hx=>?_] at e
       . omega
       . obtain ⟨c,hc,rfl⟩:=aY.mp hx;obtain ⟨w1,w2,w3⟩:=(dQ g R v0 v1).mp hc;exact (up c w1.1 w1.2 w2).2 (nn c w1.1 w1.2)
     refine .inl ⟨fun v v0 v1=>?_,ev r r0 r1⟩;have h1:=ev v v0 v1;have h2:=nn v v0 v1;omega
theorem Come.pre {xs z:List Int} {a b:Int} (c:gI m rs xs (a,b,1)=true) (h:Come m rs (bU rs xs (a,b,1)) z):Come m rs xs z:=by
 induction h with
 | start=>exact .step .start c
 | step _ c2 ih=>exact .step ih c2
theorem Qi (g:Good m rs) {z:List Int} (zl:(z.length:Int)=m) {a b:Int} (c:gI m rs z (a,b,1)=true):(bU rs z (a,b,1)).sum<z.sum:=by
 obtain ⟨is,en⟩:=DZ c;obtain ⟨ar,nb,_⟩:=wc is;obtain ⟨k,ek,tk,kk,br⟩:=GB g is;have ad:=g.adj ((jS g).mp nb);simp only at ar nb ek tk br en ad;unfold bU;show ((z.set a.toNat (z.getD a.toNat 0 - 1*d9 rs a b)).set b.toNat ((z.set a.toNat (z.getD a.toNat 0 - 1*d9 rs a b)).getD b.toNat 0+1)).sum<z.sum;rw [Go _ _ _ (by rw [bN];omega),Go _ _ _ (by omega),tk];omega
theorem Ur (g:Good m rs) (R:Rooted m rs r par dep) (r0:0<=r) (r1:r<m) {ys:List Int} (y0:∀ y∈ys,0<=y):∀ (n:Nat) (z:List Int),z.sum.toNat=n->(z.length:Int)=m->(∀ x∈z,0<=x)->0<=stg m rs r par dep ys z r ->
   ∃ z',Come m rs z z'/\(∀ v,0<=v->v<m->ys.getD v.toNat 0<=z'.getD v.toNat 0)/\z'.getD r.toNat 0 - ys.getD r.toNat 0=stg m rs r par dep ys z r:=by
 intro n
 induction n using Nat.strongRecOn with
 | _ n ih =>
   intro z hn zl z0 s0;rcases P7 g R r0 r1 zl y0 s0 with ⟨h1,h2⟩|⟨a,b,c,e⟩
   . exact ⟨z,.start,h1,h2⟩
   . have z0':=Uo g zl z0 c;have lt:=Qi g zl c;have s0':=yL z0';obtain ⟨z',h1,h2,h3⟩:=ih _ (by omega) (bU rs z (a,b,1)) rfl (by rw [ue];exact zl) z0' (by rw [e];exact s0);exact ⟨z',h1.pre c,h2,by rw [h3,e]⟩
theorem Come.stg_le (g:Good m rs) (R:Rooted m rs r par dep) (r0:0<=r) (r1:r<m) {xs ys:List Int} (xl:(xs.length:Int)=m) {z:List Int} (h:Come m rs xs z):stg m rs r par dep ys z r<=stg m rs r par dep ys xs r:=by
 induction h with
 | start=>exact bh _
 | step hz c ih=>exact Int.le_trans (Qj g R r0 r1 (by rw [hz.len];exact xl) (DZ c).1) ih
theorem Po (g:Good m rs) (v x:Int) (h:0<=x):0<=hnd rs par v x:=by
 have:=Eh (par:=par) g v 0 x h;have e:hnd rs par v 0=0:=by unfold hnd;rw [ag (bh _)];exact Int.zero_ediv _
 omega
theorem Ix {held:Int->Int} {con:Int->Int->Int} (hz:∀ v,0<=held v) (hc:∀ v x,0<=x->0<=con v x):∀ (n:Nat) (v:Int),0<=Bl m rs r par held con n v
 | 0,v=>hz v
 | n+1,v=>by
   show 0<=held v+((bA m rs (front r par v) v).map fun c=>con c (Bl m rs r par held con n c)).sum;have h1:=hz v;have h2:0<=((bA m rs (front r par v) v).map fun c=>con c (Bl m rs r par held con n c)).sum:=yL fun x hx=>by
     obtain ⟨c,hc',rfl⟩:=aY.mp hx;exact hc c _ (Ix hz hc n c)
   omega
theorem VC (g:Good m rs) (R:Rooted m rs r par dep) (r0:0<=r) (r1:r<m) {ys z:List Int} (h:∀ v,0<=v->v<m->ys.getD v.toNat 0<=z.getD v.toNat 0):z.getD r.toNat 0 - ys.getD r.toNat 0<=stg m rs r par dep ys z r:=by
 have hz:∀ v:Int,0<=(cx m z ys).getD v.toNat 0:=fun v=>by
   rw [FN];by_cases c:v.toNat<m.toNat
   . rw [ag c];have:=h (v.toNat:Int) (by omega) (by omega);rw [dR] at this;omega
   . rw [aa c];exact bh _
 rw [Cj g R r0 r1];have:0<=((bA m rs (front r par r) r).map fun c=>hnd rs par c (stg m rs r par dep ys z c)).sum:=yL fun x hx=>by
   obtain ⟨c,hc,rfl⟩:=aY.mp hx;exact Po g c _ (Ix hz (Po g) _ _)
 omega
end
end Pb
namespace L2
open PySem PySem.Spec PyProof.Rows PySem.W Pb
def Itd (d:Addr) (o:Obj) (kvs:List (List Key × V)):It :=
 ⟨fun i H=>H d=some (.frz o (.dT kvs))/\i<kvs.length,fun i H x H'=>H'=H/\∃ (q:Addr) (k:List Key) (v:V),x=.ref q/\kvs[i]?=some (k,v)/\H q=some (.tup (k.map kV)),fun i H=>H d=some (.frz o (.dT kvs))/\i=kvs.length⟩
def TU (tl:TE) (g:TG) (tb:TS):TS:=fun D σ H=>tl σ H fun x H1=>∃ (d:Addr) (kvs:List (List Key × V)),x=.ref d/\H1 d=some (.dT kvs) /\
 ∀ o,wQ (Itd d o kvs) { D with nx:=fun σ' H'=>H' d=some (.frz o (.dT kvs))/\D.nx σ' (upd H' d (.dT kvs)) } g tb σ (upd H1 d (.frz o (.dT kvs)))
end L2
namespace L2
open PySem PySem.Spec PyProof.Rows PySem.W
def Its (z:Str):It:=⟨fun i _=>i<z.cps.size,fun i H x H'=>H'=H/\∃ c,z.cps[i]?=some c/\x=.str ⟨#[c]⟩,fun i _=>z.cps.size<=i⟩
section
variable {X:Cx} {tg:Expr}
def Wf (tl:TE):TI:=fun σ H R=>tl σ H fun x H1=>∃ z,x=.str z/\z.cps.all (·<128)=true/\R (Its z) H1
end
section
variable {X:Cx} {e:Expr} {te:TE} {p2 apos cpos pos2:Pos} {z:Str} {zp:Pos} {zk:Nat}
def QG (K:PySem.W.Frag) (z:Str) (te:TE):TE:=fun σ H Q=>te σ H fun x H1=>∃ (a:Addr) (ys:List Str),x=.ref a/\SqL K H1 a (ys.map V.str)/\(ys.map (·.length)).sum+ys.length*z.length<=16777216/\Q (.str (Str.join z ys.reverse)) H1
end
end L2
namespace Pb
open L2 PySem PySem.W NumText
theorem _root_.List.getElem?_map_some {α β:Type} {f:α->β} {l:List α} {i:Nat} {y:β} (h:(l.map f)[i]?=some y):∃ x,l[i]?=some x/\y=f x:=by
 rw [aP] at h;cases e:l[i]? with
 | none=>rw [e] at h;cases h
 | some x=>rw [e] at h;exact ⟨x,rfl,(bi h).symm⟩
end Pb
namespace L2
open PySem
def Qw (K:PySem.W.Frag) (C':Addr) (ts:TS) (tr:TH):TH:=fun D σ cls od H=>∃ C b,cls=.ref C/\PySem.W.mroIn K C (.ref C')=some b/\if b=true then ts D σ H else tr D σ cls od H
end L2
namespace Pb
open L2 PySem
theorem Tx {m:Int} {rs:List Road} (g:Good m rs) {xs:List Int} {s:Stp} {t:Int} (h:bM rs s.1 s.2.1=some t):gI m rs xs s=(decide (0<s.2.2) && decide (t*s.2.2<=xs.getD s.1.toNat 0)):=by
 have ad:Adj rs s.1 s.2.1:=vO.mp (by rw [h];rfl);obtain ⟨ar,br,_⟩:=g.adj ad;unfold gI mW d9;rw [h,aW ar.1,aW ar.2,aW ((jS g).mpr ad)];show (true && true && true && decide (1<=s.2.2) && decide (s.2.2*t<=_))=_;rw [lw]
 rfl
theorem Q0 {m:Int} {rs:List Road} (g:Good m rs) {xs:List Int} {s:Stp} (h:bM rs s.1 s.2.1=none):gI m rs xs s=false:=by
 cases c:gI m rs xs s
 . rfl
 . unfold gI at c;rw [bn] at c;obtain ⟨k,e,_⟩:=GB g c.1;rw [e] at h;cases h
end Pb
namespace Pb
open L2 PySem
section
variable {m:Int} {rs:List Road}
theorem O6 {xs:List Int}:jW m rs xs []:=fun i s h=>by simp at h
theorem De {xs:List Int} {s:Stp} {ss:List Stp} (h:gI m rs xs s=true) (k:jW m rs (bU rs xs s) ss):jW m rs xs (s::ss):=by
 intro i s' hs;cases i with
 | zero=>cases hs;exact h
 | succ i=>exact k i s' hs
theorem yC {xs:List Int} {s:Stp} {ss:List Stp} (h:jW m rs xs (s::ss)):gI m rs xs s=true/\jW m rs (bU rs xs s) ss :=
 ⟨h 0 s rfl,fun i s' hs=>h (i+1) s' hs⟩
theorem Dn:∀ {ss tt:List Stp} {xs:List Int},jW m rs xs ss->jW m rs (ss.foldl (bU rs) xs) tt->jW m rs xs (ss++tt)
 | [],_,_,_,k=>k
 | s::ss,tt,xs,h,k=>De (yC h).1 (Dn (yC h).2 k)
theorem Es:∀ (ss:List Stp) (xs:List Int),(ss.foldl (bU rs) xs).length=xs.length
 | [],_=>rfl
 | s::ss,xs=>by rw [gB,Es ss,ue]
theorem wX {f:Int->Stp} {p:Int->Bool}:∀ (l:List Int) (xs:List Int),(∀ A v B,l=A++v::B->p v=true->gI m rs (((A.filter p).map f).foldl (bU rs) xs) (f v)=true)->jW m rs xs ((l.filter p).map f)
 | [],xs,_=>O6
 | u::l,xs,h=>by
   by_cases c:p u=true
   . rw [cL c,aK];refine De (h [] u l rfl c) (wX l _ fun A v B e q=>?_);have:=h (u::A) v B (by rw [e];rfl) q;rw [cL c] at this;exact this
   . rw [cN c];refine wX l xs fun A v B e q=>?_;have:=h (u::A) v B (by rw [e];rfl) q;rw [cN c] at this;exact this
def dlt (rs:List Road) (v:Int) (s:Stp):Int:=(if s.2.1=v then s.2.2 else 0) - (if s.1=v then s.2.2*d9 rs s.1 s.2.1 else 0)
def HY (m:Int) (s:Stp):Prop:=(0<=s.1/\s.1<m)/\(0<=s.2.1/\s.2.1<m)/\s.1≠s.2.1
theorem Sb {xs:List Int} (xl:(xs.length:Int)=m) {s:Stp} (ps:HY m s) {v:Int} (v0:0<=v) (v1:v<m):(bU rs xs s).getD v.toNat 0=xs.getD v.toNat 0+dlt rs v s:=by
 obtain ⟨a,b,n⟩:=s;obtain ⟨ar,br,ne⟩:=ps;change 0<=a/\a<m at ar;change 0<=b/\b<m at br;change a≠b at ne;unfold bU dlt;show ((xs.set a.toNat (xs.getD a.toNat 0 - n*d9 rs a b)).set b.toNat ((xs.set a.toNat (xs.getD a.toNat 0 - n*d9 rs a b)).getD b.toNat 0+n)).getD v.toNat 0=xs.getD v.toNat 0+((if b=v then n else 0) - (if a=v then n*d9 rs a b else 0));generalize n*d9 rs a b=k;rw [ni _ _ _ _ (by rw [bN];omega),ni _ _ _ _ (by omega),ni _ _ _ _ (by omega)];by_cases c:b=v
 . subst c;rw [ag rfl,ag rfl,aa ne,aa (show ¬ a.toNat=b.toNat by omega)];omega
 . rw [aa (show ¬ b.toNat=v.toNat by omega),aa c];by_cases d:a=v
   . subst d;rw [ag rfl,ag rfl];omega
   . rw [aa (show ¬ a.toNat=v.toNat by omega),aa d];omega
theorem wx {v:Int} (v0:0<=v) (v1:v<m):∀ (ss:List Stp) (xs:List Int),(xs.length:Int)=m->(∀ s∈ss,HY m s)->(ss.foldl (bU rs) xs).getD v.toNat 0=xs.getD v.toNat 0+(ss.map (dlt rs v)).sum
 | [],xs,_,_=>by simp
 | s::ss,xs,xl,h=>by
   rw [gB,wx v0 v1 ss (bU rs xs s) (by rw [ue];exact xl) (fun t ht=>h t (ak _ ht)),Sb xl (h s aw) v0 v1,aK,bc];omega
theorem Fp (g:Stp->Int) (f:Int->Stp) (p:Int->Bool):∀ l:List Int,(((l.filter p).map f).map g).sum=(l.map fun u=>if p u=true then g (f u) else 0).sum
 | []=>rfl
 | u::l=>by
   by_cases c:p u=true
   . rw [cL c,aK,aK,bc,Fp g f p l,aK,bc,ag c]
   . rw [cN c,Fp g f p l,aK,bc,aa c];omega
theorem Ct (f g:Int->Int):∀ l:List Int,(l.map fun u=>f u - g u).sum=(l.map f).sum - (l.map g).sum
 | []=>rfl
 | u::l=>by
   simp only [aK,bc,Ct f g l];omega
theorem BE (f:Int->Int) (v:Int):∀ l:List Int,l.Nodup->(l.map fun u=>if u=v then f u else 0).sum=if v∈l then f v else 0
 | [],_=>by simp
 | u::l,nd=>by
   have hn:=aE.mp nd;rw [aK,bc,BE f v l hn.2];by_cases c:u=v
   . subst c;rw [ag rfl,aa hn.1,ag aw];omega
   . rw [aa c];by_cases d:v∈l
     . rw [ag d,ag (ak _ d)];omega
     . rw [aa d,aa (fun z=>by rcases az.mp z with z|z;exact c z.symm;exact d z)];omega
theorem Pf (f:Int->Int) (p:Int->Prop) [DecidablePred p]:∀ l:List Int,(l.map fun u=>if p u then f u else 0).sum=((l.filter fun u=>decide (p u)).map f).sum
 | []=>rfl
 | u::l=>by
   rw [aK,bc,Pf f p l];by_cases c:p u
   . rw [ag c,cL (p:=fun u=>decide (p u)) (aW c),aK,bc]
   . rw [aa c,cN (p:=fun u=>decide (p u)) (by simpa using c)];omega
end
section
variable {m:Int} {rs:List Road} {r:Int} {par:Int->Int} {dep:Int->Nat} {st:Int->Int} {xs ys:List Int}
def tdn (rs:List Road) (par:Int->Int) (v:Int):Int:=(bM rs (par v) v).getD 1
def je (rs:List Road) (par:Int->Int) (st:Int->Int) (v:Int):Int:=if 0<=st v then st v / tol rs par v else 0
def fe (st:Int->Int) (v:Int):Int:=if 0<=st v then 0 else - st v
def xk (rs:List Road) (par:Int->Int) (st:Int->Int) (v:Int):Bool:=decide (0<je rs par st v)
def vB (st:Int->Int) (v:Int):Bool:=decide (st v<0)
def Tq (rs:List Road) (par:Int->Int) (st:Int->Int) (v:Int):Stp:=(v,par v,je rs par st v)
def Tr (par:Int->Int) (st:Int->Int) (v:Int):Stp:=(par v,v,- st v)
def fU (rs:List Road) (par:Int->Int) (st:Int->Int) (l:List Int):List Stp:=(l.filter (xk rs par st)).map (Tq rs par st)
def iU (par:Int->Int) (st:Int->Int) (l:List Int):List Stp:=(l.filter (vB st)).map (Tr par st)
theorem RL {l:List Int} {v:Int} (c:xk rs par st v=true):fU rs par st (l++[v])=fU rs par st l++[Tq rs par st v]:=by
 unfold fU;rw [b9,cL c,aA]
 rfl
theorem Q6 {l:List Int} {v:Int} (c:¬ xk rs par st v=true):fU rs par st (l++[v])=fU rs par st l:=by
 unfold fU;rw [b9,cN c,List.filter_nil,bC]
theorem SO {l:List Int} {v:Int} (c:vB st v=true):iU par st (l++[v])=iU par st l++[Tr par st v]:=by
 unfold iU;rw [b9,cL c,aA]
 rfl
theorem R3 {l:List Int} {v:Int} (c:¬ vB st v=true):iU par st (l++[v])=iU par st l:=by
 unfold iU;rw [b9,cN c,List.filter_nil,bC]
theorem yP (g:Good m rs) (R:Rooted m rs r par dep) {v:Int} (h0:0<=v) (h1:v<m) (hr:v≠r):2<=tol rs par v/\2<=tdn rs par v:=by
 obtain ⟨k,hk,k0,_⟩:=CI g R h0 h1 hr;obtain ⟨k',hk',k0',_⟩:=CF g R h0 h1 hr;unfold tol tdn;rw [hk,hk'];exact ⟨k0,k0'⟩
theorem GU (st:Int->Int) (v:Int):hnd rs par v (st v)=je rs par st v - fe st v*tdn rs par v:=by
 unfold hnd je fe tol tdn;by_cases c:0<=st v
 . rw [ag c,ag c,ag c];omega
 . rw [aa c,aa c,aa c,qw];omega
theorem IY (st:Int->Int) (v:Int):0<=fe st v:=by
 unfold fe;by_cases c:0<=st v
 . rw [ag c];exact bh _
 . rw [aa c];omega
theorem VJ (g:Good m rs) (R:Rooted m rs r par dep) (st:Int->Int) {v:Int} (h0:0<=v) (h1:v<m) (hr:v≠r):0<=je rs par st v:=by
 have:=(yP g R h0 h1 hr).1;unfold je;by_cases c:0<=st v
 . rw [ag c];exact mq c (by omega)
 . rw [aa c];exact bh _
theorem QW (g:Good m rs) (R:Rooted m rs r par dep) (st:Int->Int) {v:Int} (h0:0<=v) (h1:v<m) (hr:v≠r):je rs par st v*tol rs par v<=st v+fe st v:=by
 have:=(yP g R h0 h1 hr).1;unfold je fe;by_cases c:0<=st v
 . rw [ag c,ag c,Int.add_zero];exact Int.ediv_mul_le _ (by omega)
 . rw [aa c,aa c];omega
theorem Uf (g:Good m rs) (R:Rooted m rs r par dep) (st:Int->Int) {v:Int} (h0:0<=v) (h1:v<m) (hr:v≠r):(0<hnd rs par v (st v)->hnd rs par v (st v)=je rs par st v)/\(¬ 0<hnd rs par v (st v)->¬ 0<je rs par st v):=by
 have t2:=(yP g R h0 h1 hr).2;have e:=GU (rs:=rs) (par:=par) st v;unfold je fe at e;unfold je;by_cases c:0<=st v
 . rw [ag c,ag c,pJ,Int.sub_zero] at e;rw [e,ag c];exact ⟨fun _=>rfl,fun h=>h⟩
 . rw [aa c,aa c] at e;rw [aa c];have:0<=(- st v)*tdn rs par v:=g4 (by omega) (by omega);exact ⟨fun h=>by omega,fun _=>by decide⟩
theorem Cs (g:Good m rs) (R:Rooted m rs r par dep) {t:List Int} (nd:t.Nodup) (tr:∀ x∈t,(0<=x/\x<m)/\x≠r) {v:Int} (h0:0<=v) (h1:v<m) (hk:∀ k,0<=k->k<m->k≠r->par k=v->k∈t) (f:Int->Int):(t.map fun u=>if par u=v then f u else 0).sum=((bA m rs (front r par v) v).map f).sum:=by
 rw [Pf f (fun u=>par u=v),IP ((C4 g R nd tr h0 h1 hk).map f)]
theorem Eu {l:List Int} {f h:Int->Int} (e:∀ u∈l,f u=h u):(l.map f).sum=(l.map h).sum:=by rw [fo e]
theorem M2 (g:Good m rs) (R:Rooted m rs r par dep) (st:Int->Int) {A:List Int} (tr:∀ x∈A,(0<=x/\x<m)/\x≠r) (v:Int):((fU rs par st A).map (dlt rs v)).sum=(A.map fun u=>if par u=v then je rs par st u else 0).sum - (A.map fun u=>if u=v then je rs par st u*tol rs par u else 0).sum:=by
 unfold fU;rw [Fp,<- Ct];refine Eu fun u hu=>?_;obtain ⟨ur,un⟩:=tr u hu;have nn:=VJ g R st ur.1 ur.2 un;by_cases c:xk rs par st u=true
 . rw [ag c];rfl
 . have z:je rs par st u=0:=by
     unfold xk at c;rw [aU] at c;omega
   rw [aa c,z,pJ,ite_self,ite_self]
   rfl
theorem Nd (st:Int->Int) (A:List Int) (v:Int):((iU par st A).map (dlt rs v)).sum=(A.map fun u=>if u=v then fe st u else 0).sum - (A.map fun u=>if par u=v then fe st u*tdn rs par u else 0).sum:=by
 unfold iU;rw [Fp,<- Ct];refine Eu fun u hu=>?_;by_cases c:vB st u=true
 . have c':¬ 0<=st u:=by unfold vB at c;rw [aU] at c;omega
   have e:fe st u=- st u:=by unfold fe;rw [aa c']
   rw [ag c,e]
   rfl
 . have c':0<=st u:=by unfold vB at c;rw [aU] at c;omega
   have e:fe st u=0:=by unfold fe;rw [ag c']
   rw [aa c,e,pJ,ite_self,ite_self]
   rfl
theorem GQ (R:Rooted m rs r par dep) (st:Int->Int) {A:List Int} (tr:∀ x∈A,(0<=x/\x<m)/\x≠r):∀ s∈fU rs par st A,HY m s:=fun s hs=>by
 obtain ⟨u,hu,rfl⟩:=aY.mp hs;obtain ⟨ur,un⟩:=tr u (bG.mp hu).1;exact ⟨ur,(R.up u ur.1 ur.2 un).1,(R.ne ur.1 ur.2 un).symm⟩
theorem GP (R:Rooted m rs r par dep) (st:Int->Int) {A:List Int} (tr:∀ x∈A,(0<=x/\x<m)/\x≠r):∀ s∈iU par st A,HY m s:=fun s hs=>by
 obtain ⟨u,hu,rfl⟩:=aY.mp hs;obtain ⟨ur,un⟩:=tr u (bG.mp hu).1;exact ⟨(R.up u ur.1 ur.2 un).1,ur,R.ne ur.1 ur.2 un⟩
structure Lead (m:Int) (rs:List Road) (r:Int) (par:Int->Int) (st:Int->Int) (xs ys:List Int):Prop where
 len:(xs.length:Int)=m
 yn:∀ v:Int,0<=ys.getD v.toNat 0
 top:0<=st r
 eq:∀ v,0<=v->v<m->st v=xs.getD v.toNat 0 - ys.getD v.toNat 0+((bA m rs (front r par v) v).map fun c=>hnd rs par c (st c)).sum
theorem Lead.kid (L:Lead m rs r par st xs ys) {v:Int} (v0:0<=v) (v1:v<m):xs.getD v.toNat 0+((bA m rs (front r par v) v).map (je rs par st)).sum=st v+ys.getD v.toNat 0+((bA m rs (front r par v) v).map fun c=>fe st c*tdn rs par c).sum:=by
 have e:=L.eq v v0 v1;have e2:((bA m rs (front r par v) v).map fun c=>hnd rs par c (st c)).sum=((bA m rs (front r par v) v).map (je rs par st)).sum - ((bA m rs (front r par v) v).map fun c=>fe st c*tdn rs par c).sum:=by
   rw [<- Ct];exact Eu fun u _=>GU st u
 omega
theorem Pc (g:Good m rs) (R:Rooted m rs r par dep) (st:Int->Int) {v:Int} (v0:0<=v) (v1:v<m):0<=((bA m rs (front r par v) v).map fun c=>fe st c*tdn rs par c).sum:=yL fun x hx=>by
 obtain ⟨c,hc,rfl⟩:=aY.mp hx;obtain ⟨cr,cn,_⟩:=(dQ g R v0 v1).mp hc;exact g4 (IY st c) (by have:=(yP g R cr.1 cr.2 cn).2;omega)
theorem GA {l:List Int} (h:l.Nodup):l.reverse.Nodup:=(List.reverse_perm l).nodup_iff.mpr h
theorem Lead.inn (g:Good m rs) (R:Rooted m rs r par dep) {tl:List Int} (O:Order m r par tl) (L:Lead m rs r par st xs ys):jW m rs xs (fU rs par st tl.reverse):=by
 refine wX _ _ fun A v B e q=>?_;have e':tl=B.reverse++v::A.reverse:=by
   have:=congrArg List.reverse e;rw [mQ,jb,j9,bX] at this;exact this
 have nd:=GA (aE.mp O.nd).2;rw [e] at nd;have ndA:=(b7.mp nd).1;have vA:v ∉ A:=fun z=>(b7.mp nd).2.2 v z v aw rfl;have inA:∀ x∈A,x∈tl:=fun x hx=>by rw [e'];exact aN _ (ak _ (di.mpr hx))
 have trA:∀ x∈A,(0<=x/\x<m)/\x≠r:=fun x hx=>O.places x (inA x hx);obtain ⟨vr,vn⟩:=O.places v (by rw [e'];simp);have u:=R.up v vr.1 vr.2 vn;have hk:∀ k,0<=k->k<m->k≠r->par k=v->k∈A:=fun k a b c d=>di.mp (O.kids R e' k a b c d);have pos:0<je rs par st v:=bP q;have val:((fU rs par st A).foldl (bU rs) xs).getD v.toNat 0=st v+ys.getD v.toNat 0+((bA m rs (front r par v) v).map fun c=>fe st c*tdn rs par c).sum:=by
   rw [wx vr.1 vr.2 _ xs L.len (GQ R st trA)];rw [M2 g R st trA v,Cs g R ndA trA vr.1 vr.2 hk,BE _ v A ndA,aa vA,Int.sub_zero];exact L.kid vr.1 vr.2
 have st0:0<=st v:=by
   by_cases c:0<=st v
   . exact c
   . unfold je at pos;rw [aa c] at pos;omega
 have le:=QW g R st vr.1 vr.2 vn;have o0:fe st v=0:=by unfold fe;rw [ag st0]
 rw [o0,Int.add_zero] at le;have yn:=L.yn v;have kn:=Pc g R st vr.1 vr.2;unfold gI mW;simp only [bn,aU];refine ⟨⟨⟨vr,(jS g).mpr u.2.1⟩,pos⟩,?_⟩;show je rs par st v*d9 rs v (par v)<=((fU rs par st A).foldl (bU rs) xs).getD v.toNat 0;rw [val];have:d9 rs v (par v)=tol rs par v:=rfl;rw [this];omega
theorem Lead.mid (g:Good m rs) (R:Rooted m rs r par dep) {tl:List Int} (O:Order m r par tl) (L:Lead m rs r par st xs ys) {v:Int} (v0:0<=v) (v1:v<m):((fU rs par st tl.reverse).foldl (bU rs) xs).getD v.toNat 0=st v+ys.getD v.toNat 0+((bA m rs (front r par v) v).map fun c=>fe st c*tdn rs par c).sum - (if v=r then 0 else je rs par st v*tol rs par v):=by
 have nd:=GA (aE.mp O.nd).2;have tr:∀ x∈tl.reverse,(0<=x/\x<m)/\x≠r:=fun x hx=>O.places x (di.mp hx);rw [wx v0 v1 _ xs L.len (GQ R st tr),M2 g R st tr v,Cs g R nd tr v0 v1 (fun k a b c _=>di.mpr ((O.all k a b).resolve_left c)),BE _ v _ nd];have:=L.kid v0 v1;have e:(if v∈tl.reverse then je rs par st v*tol rs par v else 0)=if v=r then 0 else je rs par st v*tol rs par v:=by
   by_cases c:v=r
   . rw [ag c,aa (fun z=>(tr v z).2 c)]
   . rw [aa c,ag (di.mpr ((O.all v v0 v1).resolve_left c))]
 rw [e];omega
theorem Lead.left (g:Good m rs) (R:Rooted m rs r par dep) (L:Lead m rs r par st xs ys) {v:Int} (v0:0<=v) (v1:v<m):0<=st v+fe st v - (if v=r then 0 else je rs par st v*tol rs par v):=by
 by_cases c:v=r
 . rw [ag c,c];have:=L.top;have:=IY st r;omega
 . rw [aa c];have:=QW g R st v0 v1 c;omega
theorem Lead.out (g:Good m rs) (R:Rooted m rs r par dep) {tl:List Int} (O:Order m r par tl) (L:Lead m rs r par st xs ys):jW m rs ((fU rs par st tl.reverse).foldl (bU rs) xs) (iU par st tl):=by
 refine wX _ _ fun A c B e q=>?_;have nd:=(aE.mp O.nd).2;have nr:=(aE.mp O.nd).1;rw [e] at nd;have ndA:=(b7.mp nd).1;have inA:∀ x∈A,x∈tl:=fun x hx=>by rw [e];exact a9 _ hx
 have trA:∀ x∈A,(0<=x/\x<m)/\x≠r:=fun x hx=>O.places x (inA x hx);obtain ⟨cr,cn⟩:=O.places c (by rw [e];simp);have u:=R.up c cr.1 cr.2 cn;have neg:st c<0:=bP q;have oc:fe st c=- st c:=by unfold fe;rw [aa (by omega)]
 have xl:(((fU rs par st tl.reverse).foldl (bU rs) xs).length:Int)=m:=by rw [Es];exact L.len
 have pA:par c=r\/par c∈A:=by
   have af:=O.af;rw [e,show A++c::B=(A++[c])++B by simp] at af;rcases af.up c (by simp) with z|z
   . exact .inl (aB.mp z)
   . rcases aQ.mp z with z|z
     . exact .inr z
     . exact absurd (aB.mp z) (R.ne cr.1 cr.2 cn)
 have own:(A.map fun u=>if u=par c then fe st u else 0).sum=fe st (par c):=by
   rw [BE _ _ A ndA];rcases pA with z|z
   . rw [z,aa (fun w=>nr (inA r w))];unfold fe;rw [ag L.top]
   . rw [ag z]
 have all:=Cs g R (aE.mp O.nd).2 O.places u.1.1 u.1.2 (fun k a b d _=>(O.all k a b).resolve_left d) (fun w=>fe st w*tdn rs par w);have part:(A.map fun w=>if par w=par c then fe st w*tdn rs par w else 0).sum+fe st c*tdn rs par c<=(tl.map fun w=>if par w=par c then fe st w*tdn rs par w else 0).sum:=by
   rw [e,aA,aK,List.sum_append,bc,ag rfl];have:0<=(B.map fun w=>if par w=par c then fe st w*tdn rs par w else 0).sum:=yL fun x hx=>by
     obtain ⟨w,hw,rfl⟩:=aY.mp hx;obtain ⟨wr,wn⟩:=O.places w (by rw [e];simp [hw]);have t2:=(yP g R wr.1 wr.2 wn).2;by_cases z:par w=par c
     . rw [ag z];exact g4 (IY st w) (by omega)
     . rw [aa z];exact bh _
   omega
 have val:((iU par st A).foldl (bU rs) ((fU rs par st tl.reverse).foldl (bU rs) xs)).getD (par c).toNat 0=((fU rs par st tl.reverse).foldl (bU rs) xs).getD (par c).toNat 0+(fe st (par c) - (A.map fun w=>if par w=par c then fe st w*tdn rs par w else 0).sum):=by
   rw [wx u.1.1 u.1.2 _ _ xl (GP R st trA)];rw [Nd (rs:=rs) (par:=par) st A (par c),own]
 have md:=L.mid g R O u.1.1 u.1.2;have lf:=L.left g R u.1.1 u.1.2;have yn:=L.yn (par c);unfold gI mW;simp only [bn,aU];refine ⟨⟨⟨u.1,(jS g).mpr u.2.1.symm⟩,by show 1<=- st c;omega⟩,?_⟩;show - st c*d9 rs (par c) c<=((iU par st A).foldl (bU rs) ((fU rs par st tl.reverse).foldl (bU rs) xs)).getD (par c).toNat 0;rw [val,md,<- oc];have:d9 rs (par c) c=tdn rs par c:=rfl;rw [this];omega
theorem Lead.all (g:Good m rs) (R:Rooted m rs r par dep) {tl:List Int} (O:Order m r par tl) (L:Lead m rs r par st xs ys):jW m rs xs (fU rs par st tl.reverse++iU par st tl):=Dn (L.inn g R O) (L.out g R O)
theorem Lead.meets (g:Good m rs) (R:Rooted m rs r par dep) {tl:List Int} (O:Order m r par tl) (L:Lead m rs r par st xs ys) {v:Int} (v0:0<=v) (v1:v<m):ys.getD v.toNat 0<=((fU rs par st tl.reverse++iU par st tl).foldl (bU rs) xs).getD v.toNat 0:=by
 have nd:=(aE.mp O.nd).2;have xl:(((fU rs par st tl.reverse).foldl (bU rs) xs).length:Int)=m:=by rw [Es];exact L.len
 rw [List.foldl_append,wx v0 v1 _ _ xl (GP R st O.places),Nd,L.mid g R O v0 v1,Cs g R nd O.places v0 v1 (fun k a b d _=>(O.all k a b).resolve_left d) (fun w=>fe st w*tdn rs par w),BE _ v _ nd];have lf:=L.left g R v0 v1;have e:(if v∈tl then fe st v else 0)=fe st v:=by
   by_cases c:v∈tl
   . rw [ag c]
   . rw [aa c];have:v=r:=(O.all v v0 v1).resolve_right c;rw [this];unfold fe;rw [ag L.top]
 rw [e];omega
theorem F0 {ys:List Int} (y0:∀ y∈ys,0<=y) (i:Nat):0<=ys.getD i 0:=by
 rw [List.getD];cases e:ys[i]? with
 | none=>exact bh _
 | some y=>exact y0 y (a8 e)
theorem UO (g:Good m rs) (R:Rooted m rs r par dep) (xl:(xs.length:Int)=m) (y0:∀ y∈ys,0<=y) (s0:0<=stg m rs r par dep ys xs r):Lead m rs r par (stg m rs r par dep ys xs) xs ys :=
 ⟨xl,fun v=>F0 y0 _,s0,fun v v0 v1=>Cj g R v0 v1⟩
theorem UL (g:Good m rs) (R:Rooted m rs r par dep) (r0:0<=r) (r1:r<m) {r':Int} {par':Int->Int} {dep':Int->Nat} (R':Rooted m rs r' par' dep') (r0':0<=r') (r1':r'<m) (xl:(xs.length:Int)=m) (x0:∀ x∈xs,0<=x) (y0:∀ y∈ys,0<=y) (s0:0<=stg m rs r par dep ys xs r):0<=stg m rs r' par' dep' ys xs r':=by
 obtain ⟨z,cz,hz,_⟩:=Ur g R r0 r1 y0 _ xs rfl xl x0 s0;have h1:=VC g R' r0' r1' hz;have h2:=cz.stg_le (ys:=ys) g R' r0' r1' xl;have h3:=hz r' r0' r1';omega
end
def cvL (xs ys:List Int):Bool:=(xs.zip ys).all fun p=>decide (p.2<=p.1)
theorem Pl {xs ys:List Int} (h:xs.length=ys.length):cvL xs ys=((List.range ys.length).map fun i=>decide (ys.getD i 0<=xs.getD i 0)).all id:=by
 rw [eR,dz];unfold cvL;rw [dz]
 constructor
 . intro z b hb;obtain ⟨i,hi,rfl⟩:=aY.mp hb;have hi':=bD.mp hi;have:=z (xs[i],ys[i]) (by
     refine List.mem_iff_getElem.mpr ⟨i,by rw [List.length_zip];omega,?_⟩;rw [List.getElem_zip])
   show decide _=true;rw [List.getD,List.getD,ax hi',ax (show i<xs.length by omega)];exact this
 . rintro z p hp;obtain ⟨i,hi,rfl⟩:=gL hp;rw [List.length_zip] at hi;have:=z _ (aY.mpr ⟨i,bD.mpr (by omega),rfl⟩);rw [List.getElem_zip];change decide _=true at this;rw [List.getD,List.getD,ax (show i<ys.length by omega),ax (show i<xs.length by omega)] at this;exact this
end Pb
namespace L2
open PySem PySem.Spec PyProof.Rows
section
variable {X:Cx}
def VD (t:TE):TE:=fun σ H Q=>t σ H fun x H1=>∃ b,x=.bl b/\Q (.bl (b == true)) H1
end
end L2
namespace L2
open PySem PySem.Spec PyProof.Rows
section
variable {X:Cx}
theorem P3 (hc:X.calm=true):qb X (.builtin "min") (fun xs H Q=>∃ (p:Addr) (ns:List Int),xs=[.ref p]/\SqT X.K H p (ns.map V.int)/\ns≠[]/\∀ y,y∈ns->(∀ x∈ns,y<=x)->Q (.int y) H):=by
 intro pins s σ H xs us Q I r h;obtain ⟨p,ns,rfl,hp,hne,q⟩:=h;obtain ⟨u,rfl,ru⟩:=wK r;cases ru;have hh:X.A.in1.handled=none:=I.ok.hd hc;obtain ⟨its,rv,pl,hz⟩:=I.tuple hp;have hlen:its.length=ns.length:=by rw [<- rv.length,ai]
 have hv:∀ (i:Nat) (v:Value),its.toArray[i]?=some v->∃ t,v=Value.int (ns.getD i 0) t:=fun i v hP=>by
   have hi:its[i]?=some v:=by simpa using hP
   have hib:i<ns.length:=by rw [<- hlen];exact (aq.mp hi).1
   obtain ⟨u,hu,ru⟩:=rv.get (i:=i) (x:=V.int ns[i]) (by rw [aP,ax hib];rfl);rw [hi] at hu;cases hu;obtain ⟨t,e⟩:=(show ∃ t,v=Value.int ns[i] t from ru);exact ⟨t,by rw [e];simp [List.getD,hib]⟩
 have hl:s.heap.IsTuple p its.toArray:=pl;have hlt:p<s.heap.objs.size:=by
   obtain ⟨o,e,_⟩:=id hl;exact aG e
 have n0:0<ns.length:=List.length_pos_iff.mpr hne;refine call_min_walk (wpAny_pyIter_tuple hl ?_);refine ⟨s.heap.objs.size,[s.heap.objs.size,p],[s.heap.objs.size],its.toArray.size,_,_,_,rfl,Walks.tuple (A:=X.A.in1) hh _ p (aO hlt) its.toArray,
   ⟨⟨_,bg _ rfl,rfl,rfl⟩,hl.push _⟩,fun b hb=>?_,by rw [aD,hlen];exact n0,CmpOf.ints_lt (fun i=>ns.getD i 0) fun i v hP=>hv i v hP,fun v h' tk hP hk=>?_⟩
 . simp only [Heap.push,Array.size_push];rcases az.mp hb with e|e
   . rw [e];exact eJ _
   . rw [aB.mp e];exact jQ hlt
 . have kk:∀ b o,s.heap.get? b=some o->h'.get? b=some o:=fun b o eb=>hk b o (fun hm=>by rw [aB.mp hm] at eb;exact dy _ (aG eb)) (aJ _ eb);obtain ⟨t,rfl⟩:=hv _ v hP;obtain ⟨a1,a2⟩:=C6 (fun i=>ns.getD i 0) (its.toArray.size - 1);rw [aD,hlen] at a1 a2 ⊢;generalize argBest (fun i j=>decide (ns.getD i 0<ns.getD j 0)) (ns.length - 1)=b at a1 a2 ⊢;have hb:b<ns.length:=by omega
   refine ⟨.int _,H,I.kept (t':=tk) kk,⟨t,rfl⟩,q _ ?_ fun x hx=>?_⟩
   . rw [List.getD,ax hb];exact eZ hb
   . obtain ⟨i,hi,rfl⟩:=gL hx;have:=a2 i (by omega);have e:ns.getD i 0=ns[i]:=(by rw [List.getD,ax hi];rfl);rw [e] at this;exact this
def T5 (t:TE):TE:=fun σ H Q=>t σ H fun x H1=>∃ b,x=.bl b/\Q (.bl (b != false)) H1
end
end L2
namespace L2
open PySem PySem.Spec PyProof.Rows
def TY (i j:Nat) (ta:TA):TS:=fun D σ H=>ta σ H fun vs H1=>∃ v w,vs=[v,w]/\D.nx ((σ.set i (some v)).set j (some w)) H1
end L2
namespace Pb
open L2 PySem PySem.W NumText
def ch:Nat->Nat->Nat
 | _,0=>1
 | 0,_+1=>0
 | n+1,k+1=>ch n k+ch n (k+1)
end Pb
namespace L2
open PySem PySem.Spec PyProof.Rows PySem.W
def LED (w:World):Bool:=!(w.params.followText "set-order")
theorem Qu {prog:Program} {w:World} {A:Around} {E:Value->Shared->Prop} {s:Shared} {Q:Bool->Shared->Prop} (q:Q (w.params.followText "set-order") s):wpAny (model prog w) A setsByText Q E s:=by
 unfold setsByText;refine aj (wpAny_askSetting ?_);exact ap q
theorem Uz {prog:Program} {w:World} {A:Around} {E:Value->Shared->Prop} {s:Shared} (a:Value) {Q₁:Value->Shared->Prop}
   (q:Q₁ (.ref s.heap.objs.size) { s with heap:=s.heap.push { cls:=.type "set",data:=.set #[] 0 (SetTable.fresh 0 0 (LED w)) } }) :
   codeAny (model prog w) A (.call (.builtin "set.__new__") { pos:=[.type "set",a] }) (wants Q₁ E) s:=by
 refine codeAny_call_builtin F.plain_set_new F.entry_set_new ?_;rw [F.newCall_set_1];refine ap ?_;unfold Builtin.«set.__new__»;refine aj (m:=Builtin.Frozenset.newClass "set" _) ?_;unfold Builtin.Frozenset.newClass;dsimp only;rw [show isType (.type "set")=pure true from rfl];refine aj (ap ?_);rw [aa (by decide),sub_set_self];refine aj (ap ?_);rw [aa (by decide)];refine ap ?_;refine aj ?_;unfold newSet;refine aj (Qu ?_);refine gW ?_ ?_
 . exact ap q
 . show (#[]:Array (Int × Value)).size<=sizeLine;exact bo _
def SetIs (h:Heap) (a:Addr) (es:Array (Int × Value)) (ep:Nat) (t:SetTable):Prop:=∃ o,h.get? a=some o/\o.ExactSet/\o.data=.set es ep t
theorem SetIs.put {h:Heap} {a:Addr} {es es':Array (Int × Value)} {ep:Nat} {t t':SetTable} (S:SetIs h a es ep t):SetIs (h.update a (Obj.putSet es' t')) a es' (ep+1) t':=by
 obtain ⟨o,h1,⟨c1,c2,c3⟩,h3⟩:=S;refine ⟨Obj.putSet es' t' o,?_,?_,?_⟩
 . exact eI _ h1 (by rw [putSet_of es' t' h3];unfold Obj.isFreed;simp [c1])
 . rw [putSet_of es' t' h3];exact ⟨c1,c2,c3⟩
 . rw [putSet_of es' t' h3]
theorem Sd {prog:Program} {w:World} {A:Around} {E:Value->Shared->Prop} {s:Shared} {v:Value} {Q:String->Shared->Prop} (h:s.TypeIs v "set") (q:∀ nm,Q nm s):wpAny (model prog w) A (typeNameOfCut 200 v) Q E s:=by
 unfold typeNameOfCut shownTypeOf;refine aj (aj (wpAny_typeOf h ?_));rw [aa (by decide)];refine ap ?_;exact ap (q _)
theorem US {prog:Program} {w:World} {A:Around} {E:Value->Shared->Prop} {s:Shared} {l:Addr} {items:Array Value} {Q:Bool->Shared->Prop} (hl:s.heap.IsList l items) (q:Q false s):wpAny (model prog w) A (Builtin.Frozenset.isAnySet (.ref l)) Q E s:=by
 have ty:s.TypeIs (.ref l) "list":=hl.typeIs;unfold Builtin.Frozenset.isAnySet;refine aj (kK ty F.sub_list_set ?_);exact kK ty F.sub_list_frozenset q
theorem PL {prog:Program} {w:World} {A:Around} {E:Value->Shared->Prop} {s:Shared} {l:Addr} {Q:Value->Shared->Prop}
   (k:∀ h',SetIs h' s.heap.objs.size #[] 0 (SetTable.fresh 0 0 (LED w))->(∀ b o,s.heap.get? b=some o->h'.get? b=some o)->wpAny (model prog w) A.in1 (call (.builtin "set.__init__") [.ref s.heap.objs.size,.ref l]) (fun v s'=>v=.none/\Q (.ref s.heap.objs.size) s') E { s with heap:=h' }) :
   wpAny (model prog w) A (call (.type "set") [.ref l]) Q E s:=by
 refine jm (codeAny_of_tree ?_);show wpAny (model prog w) _ (again (Code.builtin "type.__call__" { pos:=[.type "set",.ref l] })) _ _ _;refine ap ⟨Code.quiet_builtin _ (by decide +kernel),lI entry_typeCall ?_⟩;rw [Around.under_plain (weight_type_call_type ..) rfl];unfold Builtin.«type.__call__»;dsimp only;rw [aa (by decide)];rw [aa (by rw [F.called_set.canCreate];decide),F.typeCall_set_1];refine aj (ap ?_);rw [F.mro_set];refine aj (ap ?_);rw [aa (by decide),F.called_set.made];refine aj (ap ?_);dsimp only;refine aj (ap ?_);refine aj (cV (jm (Uz _ (Q₁:=fun obj s₁=>wpAny (model prog w) A.in1 _ _ _ s₁) ?_)));have h0:=bg (h:=s.heap) (o:={ cls:=.type "set",data:=.set #[] 0 (SetTable.fresh 0 0 (LED w)) }) rfl;have ty:Shared.TypeIs { s with heap:=s.heap.push { cls:=.type "set",data:=.set #[] 0 (SetTable.fresh 0 0 (LED w)) } } (.ref s.heap.objs.size) "set":=⟨_,h0,rfl⟩;refine aj (kK ty sub_set_self ?_);rw [aa (by decide)];refine aj (cV (wpAny_callSpecial?_slotG ty ⟨iW.lookup,iW.bind,iW.check⟩ (cJ (k _ ⟨_,h0,⟨rfl,rfl,rfl⟩,rfl⟩ fun b o eb=>aJ _ eb) (fun v s' hq=>?_) fun _ _ z=>z)));obtain ⟨rfl,qq⟩:=hq;dsimp only;rw [aa (by decide)];exact ap qq
theorem SetIs.lt {h:Heap} {a:Addr} {es:Array (Int × Value)} {ep:Nat} {t:SetTable} (S:SetIs h a es ep t):a<h.objs.size:=let ⟨_,h1,_⟩:=S;aG h1
theorem Wg:bootBuiltins "set"=some (.type "set"):=by decide +kernel
end L2
namespace L2
open PySem PySem.Spec PyProof.Rows PySem.W
def lp (mask:Nat):Nat->Nat × Nat->Nat × Nat
 | 0,p=>p
 | n+1,p=>lp mask n (SetTable.leap mask p.1 p.2)
theorem Jr (mask:Nat):∀ (m n:Nat) (p:Nat × Nat),lp mask (m+n) p=lp mask n (lp mask m p)
 | 0,n,p=>by rw [kc];rfl
 | m+1,n,p=>by
   rw [show m+1+n=(m+n)+1 by omega];show lp mask (m+n) _=lp mask n (lp mask m _);exact Jr mask m n _
theorem QE (mask:Nat):∀ (n:Nat) (p:Nat × Nat),(lp mask n p).2=p.2 / 32^n
 | 0,p=>by
   show p.2=p.2 / 1;rw [Nat.div_one]
 | n+1,p=>by
   show (lp mask n (SetTable.leap mask p.1 p.2)).2=_;rw [QE mask n];show p.2 / 32 / 32^n=_;rw [Nat.div_div_eq_div_mul,Nat.pow_succ,Nat.mul_comm]
theorem U7 {mask n:Nat} {p:Nat × Nat} (h:p.2<2^64) (hn:13<=n):(lp mask n p).2=0:=by
 rw [QE];refine Nat.div_eq_of_lt (aR h ?_);rw [show (32:Nat)=2^5 from rfl,<- Nat.pow_mul];exact Nat.pow_le_pow_right (by decide) (by omega)
theorem Pe {mask n:Nat} {p:Nat × Nat} (h:p.1<=mask):(lp mask n p).1<=mask:=by
 induction n generalizing p with
 | zero=>exact h
 | succ n ih=>exact ih (p:=SetTable.leap mask p.1 p.2) (by
     have:=lX (p.1*5+1+p.2 / 32) (show 0<mask+1 by omega);show (p.1*5+1+p.2 / 32) % (mask+1)<=mask;omega)
def cyc (mask:Nat):Nat->Nat->Nat
 | 0,i=>i
 | n+1,i=>cyc mask n ((i*5+1) % (mask+1))
theorem Qk (mask:Nat):∀ (n i:Nat),lp mask n (i,0)=(cyc mask n i,0)
 | 0,i=>rfl
 | n+1,i=>by
   show lp mask n ((i*5+1+0 / 32) % (mask+1),0 / 32)=_;rw [show (0:Nat) / 32=0 from rfl,Nat.add_zero];exact Qk mask n _
theorem CH (mask:Nat):∀ (m n i:Nat),cyc mask (m+n) i=cyc mask n (cyc mask m i)
 | 0,n,i=>by rw [kc];rfl
 | m+1,n,i=>by
   rw [show m+1+n=(m+n)+1 by omega];show cyc mask (m+n) _=cyc mask n (cyc mask m _);exact CH mask m n _
theorem FR {mask:Nat} (z:cyc mask (mask+1) 0=0) (h:∀ j,j<mask+1->∃ n,n<mask+1/\cyc mask n 0=j) (i:Nat) (hi:i<mask+1) (j:Nat) (hj:j<mask+1):∃ n,n<mask+1/\cyc mask n i=j:=by
 obtain ⟨a,a1,a2⟩:=h i hi;obtain ⟨b,b1,b2⟩:=h j hj;by_cases c:a<=b
 . refine ⟨b - a,by omega,?_⟩;rw [<- a2,<- CH,show a+(b - a)=b by omega,b2]
 . refine ⟨b+(mask+1) - a,by omega,?_⟩;rw [<- a2,<- CH,show a+(b+(mask+1) - a)=(mask+1)+b by omega,CH,z,b2]
theorem WN:∀ j,j<7+1->∃ n,n<7+1/\cyc 7 n 0=j:=by decide +kernel
theorem Wn:∀ j,j<31+1->∃ n,n<31+1/\cyc 31 n 0=j:=by decide +kernel
theorem V4:∀ j,j<127+1->∃ n,n<127+1/\cyc 127 n 0=j:=by decide +kernel
def Ik (mask:Nat):Prop:=mask=7\/mask=31\/mask=127
theorem QH {mask:Nat} (hm:Ik mask) {p:Nat × Nat} (h1:p.1<=mask) (h2:p.2<2^64) {j:Nat} (hj:j<=mask):∃ n,n<=13+mask/\(lp mask n p).1=j:=by
 have c:(lp mask 13 p).2=0:=U7 h2 (aI _);have e:lp mask 13 p=((lp mask 13 p).1,0):=by rw [<- c]
 have b:=Pe (n:=13) h1;obtain ⟨n,n1,n2⟩:∃ n,n<mask+1/\cyc mask n (lp mask 13 p).1=j:=by
   rcases hm with rfl|rfl|rfl
   . exact FR (by decide +kernel) WN _ (by omega) _ (by omega)
   . exact FR (by decide +kernel) Wn _ (by omega) _ (by omega)
   . exact FR (by decide +kernel) V4 _ (by omega) _ (by omega)
 refine ⟨13+n,by omega,?_⟩;rw [Jr,e,Qk];exact n2
structure PV (mask:Nat) (p:SetTable.Probe):Prop where
 i:p.i<=mask
 pe:p.perturb<2^64
 mo:p.more<=9
 du:p.dummy=none
theorem QO (mask i:Nat):SetTable.runEnd mask i - i<=9:=by
 unfold SetTable.runEnd;split <;> omega
theorem MF (mask i q:Nat):(SetTable.leap mask i q).1<=mask:=by
 have:=lX (i*5+1+q / 32) (show 0<mask+1 by omega);show (i*5+1+q / 32) % (mask+1)<=mask;omega
theorem PZ {mask i q:Nat} (h:q<2^64):(SetTable.leap mask i q).2<2^64:=ju (Nat.div_le_self q 32) h
theorem PV.adv {t:SetTable} {p:SetTable.Probe} (h:PV t.mask p):PV t.mask (t.advance p):=by
 unfold SetTable.advance;by_cases c:p.more > 0
 . rw [ag c];exact ⟨h.i,h.pe,by show p.more - 1<=9;have:=h.mo;omega,h.du⟩
 . rw [aa c];exact ⟨MF _ _ _,PZ (mask:=t.mask) (i:=p.i) h.pe,QO _ _,h.du⟩
def advN (t:SetTable):Nat->SetTable.Probe->SetTable.Probe
 | 0,p=>p
 | n+1,p=>advN t n (t.advance p)
theorem Ep (t:SetTable):∀ (m n:Nat) (p:SetTable.Probe),advN t (m+n) p=advN t n (advN t m p)
 | 0,n,p=>by rw [kc];rfl
 | m+1,n,p=>by
   rw [show m+1+n=(m+n)+1 by omega];show advN t (m+n) _=advN t n (advN t m _);exact Ep t m n _
theorem PV.advN {t:SetTable}:∀ (n:Nat) {p:SetTable.Probe},PV t.mask p->PV t.mask (L2.advN t n p)
 | 0,_,h=>h
 | n+1,_,h=>PV.advN n h.adv
theorem F6 (t:SetTable):∀ (r:Nat) (p:SetTable.Probe),p.more=r->(L2.advN t (r+1) p).j=(SetTable.leap t.mask p.i p.perturb).1/\((L2.advN t (r+1) p).i,(L2.advN t (r+1) p).perturb)=SetTable.leap t.mask p.i p.perturb
 | 0,p,h=>by
   show (t.advance p).j=_/\((t.advance p).i,(t.advance p).perturb)=_;unfold SetTable.advance;rw [aa (by omega)];exact ⟨rfl,rfl⟩
 | r+1,p,h=>by
   show (L2.advN t (r+1) (t.advance p)).j=_/\((L2.advN t (r+1) (t.advance p)).i,(L2.advN t (r+1) (t.advance p)).perturb)=_;have e:t.advance p={ j:=p.j+1,more:=p.more - 1,i:=p.i,perturb:=p.perturb,dummy:=p.dummy }:=by
     unfold SetTable.advance;rw [ag (by omega)]
   rw [e];exact F6 t r _ (by show p.more - 1=r;omega)
theorem HT (t:SetTable):∀ (n:Nat) {p:SetTable.Probe},PV t.mask p->∃ m,m<=10*(n+1)/\(L2.advN t m p).j=(lp t.mask n (SetTable.leap t.mask p.i p.perturb)).1/\((L2.advN t m p).i,(L2.advN t m p).perturb)=lp t.mask n (SetTable.leap t.mask p.i p.perturb)
 | 0,p,h=>by
   obtain ⟨h1,h2⟩:=F6 t p.more p rfl;exact ⟨p.more+1,by have:=h.mo;omega,h1,h2⟩
 | n+1,p,h=>by
   obtain ⟨m,m1,m2,m3⟩:=HT t n h;have v:=h.advN m;obtain ⟨h1,h2⟩:=F6 t (L2.advN t m p).more (L2.advN t m p) rfl;have e:SetTable.leap t.mask (L2.advN t m p).i (L2.advN t m p).perturb=lp t.mask (n+1) (SetTable.leap t.mask p.i p.perturb):=by
     rw [Jr t.mask n 1,<- m3]
     rfl
   refine ⟨m+((L2.advN t m p).more+1),by have:=v.mo;omega,?_,?_⟩
   . rw [Ep,h1,e]
   . rw [Ep,h2,e]
theorem Pm {t:SetTable} (hm:Ik t.mask) {p:SetTable.Probe} (h:PV t.mask p) {j:Nat} (hj:j<=t.mask):∃ m,m<=10*(t.mask+14)/\(advN t m p).j=j:=by
 obtain ⟨n,n1,n2⟩:=QH hm (MF t.mask p.i p.perturb) (PZ (mask:=t.mask) (i:=p.i) h.pe) hj;obtain ⟨m,m1,m2,_⟩:=HT t n h;exact ⟨m,by omega,m2.trans n2⟩
theorem O9 {t:SetTable} {ha:Nat->Int} {h:Int} (nd:∀ j,t.slot j≠.dummy):∀ (fuel m:Nat) {p:SetTable.Probe},PV t.mask p->m<fuel->t.slot (advN t m p).j=.empty ->
   (∃ j,SetTable.probe.go t ha h fuel p=some (.empty j none)/\t.slot j=.empty)\/(∃ j i next c,SetTable.probe.go t ha h fuel p=some (.candidate j i next)/\t.slot j=.live i/\ha i=h/\c<m/\PV t.mask next/\t.slot (advN t c next).j=.empty)
 | 0,m,p,_,hm,_=>absurd hm (iC _)
 | fuel+1,m,p,v,hm,he=>by
   rw [SetTable.probe.go.eq_def];dsimp only;cases hs:t.slot p.j with
   | empty =>
     refine .inl ⟨p.j,?_,hs⟩;rw [v.du]
   | dummy=>exact absurd hs (nd _)
   | live i =>
     cases m with
     | zero=>rw [show (advN t 0 p).j=p.j from rfl,hs] at he;cases he
     | succ m =>
       dsimp only;by_cases c:(ha i == h)=true
       . rw [ag c];exact .inr ⟨p.j,i,t.advance p,m,rfl,hs,g6.mp c,eJ _,v.adv,he⟩
       . rw [aa c];rcases O9 nd fuel m v.adv (by omega) he with z|⟨j,i',next,c',z1,z2,z3,z4,z5⟩
         . exact .inl z
         . exact .inr ⟨j,i',next,c',z1,z2,z3,by omega,z5⟩
structure TbOk (t:SetTable) (n:Nat):Prop where
 mask:Ik t.mask
 dum:t.dummies=#[]
 pl:t.place.size=n
 lt:n<=t.mask
theorem TbOk.fits {t:SetTable} {n:Nat} (h:TbOk t n):t.fits n=true:=by
 unfold SetTable.fits SetTable.fill;rw [h.dum,h.pl];simp;exact h.lt
theorem TbOk.nd {t:SetTable} {n:Nat} (h:TbOk t n):∀ j,t.slot j≠.dummy:=fun j z=>by
 unfold SetTable.slot at z;rw [h.dum] at z;dsimp only at z;split at z
 . cases z
 . rw [aa (by unfold SetTable.has;simp)] at z;cases z
theorem G0 {t:SetTable} {j i:Nat} (h:t.slot j=.live i):t.place[i]?=some j:=by
 unfold SetTable.slot at h;dsimp only at h;split at h
 . rename_i c
   injection h with h
   rw [<- h];exact g6.mp c
 . split at h <;> cases h
theorem TbOk.empty {t:SetTable} {n:Nat} (h:TbOk t n):∃ j,j<=t.mask/\t.slot j=.empty:=by
 refine Classical.byContradiction fun no=>?_;have all:∀ j,j<=t.mask->j∈t.place.toList:=fun j hj=>by
   cases hs:t.slot j with
   | empty=>exact absurd ⟨j,hj,hs⟩ no
   | dummy=>exact absurd hs (h.nd j)
   | live i =>
     have:=G0 hs;rw [<- jg] at this;exact a8 this
 have:=Pb.nodup_le (l':=t.place.toList) (kI (n:=t.mask+1)) fun j hj=>all j (by have:=bD.mp hj;omega);rw [fT,dG,h.pl] at this;have:=h.lt;omega
def Flt (v:Value):Prop:=(∃ i t,v=.int i t)\/∃ x t,v=.str x t
theorem GF {prog:Program} {w:World} {ks:List Key} {vs:List Value} (hi:ItemsAre (bz prog w) ks vs):∀ v∈vs,Flt v:=by
 induction hi with
 | nil=>intro v h;cases h
 | cons h1 _ ih =>
   intro v h;rcases az.mp h with rfl|h
   . rcases gR (show zh _ v=true from h1) with ⟨i,t,_,e⟩|⟨x,t,_,e⟩
     . exact .inl ⟨i,t,e⟩
     . exact .inr ⟨x,t,e⟩
   . exact ih v h
theorem Uk {prog:Program} {w:World} {A:Around} {E:Value->Shared->Prop} {s:Shared} {v:Value} {n:Nat} {Q:Bool->Shared->Prop} (h:Flt v) (q:Q false s):wpAny (model prog w) A (ofAClassStatement n v) Q E s:=by
 rw [ofAClassStatement.eq_def];rcases h with ⟨i,t,rfl⟩|⟨x,t,rfl⟩ <;> exact ap q
theorem PN {prog:Program} {w:World} {A:Around} {E:Value->Shared->Prop} {s:Shared} {x:Addr} {k:List Key} {Q:Bool->Shared->Prop} (kx:(tupleKind (bz prog w)).is s.heap k x) (q:Q false s):wpAny (model prog w) A (ofAClassStatement 8 (.ref x)) Q E s:=by
 obtain ⟨o,items,n,h1,h2,h3,h4⟩:=kx;rw [ofAClassStatement.eq_def];dsimp only;refine aj (wpAny_typeOf (T:="tuple") ⟨o,h1,h2⟩ ?_);dsimp only;rw [ag (by decide)];refine aj (ap ?_);rw [aa (by decide)];refine aj (wpAny_seqItems h1 h3 ?_);dsimp only;have hf:=GF h4;refine aj (wpAny_forIn_array' _ (fun jT b s'=>b=(none,())/\s'=s/\∀ v∈jT,Flt v) _ ?_ ?_ items _ ⟨rfl,rfl,hf⟩)
 . rintro y jT b s' ⟨rfl,rfl,hr⟩;refine aj (Uk (hr y (.head _)) ?_);rw [aa (by decide)];exact ap ⟨rfl,rfl,fun v hv=>hr v (.tail _ hv)⟩
 . rintro b s' ⟨rfl,rfl,_⟩;exact ap q
theorem UY {prog:Program} {w:World} {A:Around} {E:Value->Shared->Prop} {s:Shared} {x:Addr} {k:List Key} {l:List Value} {Q:Bool->Shared->Prop} (kx:(tupleKind (bz prog w)).is s.heap k x) (hl:∀ v∈l,∃ k' y,v=.ref y/\(tupleKind (bz prog w)).is s.heap k' y) (q:Q false s):wpAny (model prog w) A (searchCouldBeSeen (.ref x) l) Q E s:=by
 unfold searchCouldBeSeen;refine aj (wpAny_forIn_list _ (fun jT b s'=>b=(none,())/\s'=s/\∀ v∈jT,∃ k' y,v=.ref y/\(tupleKind (bz prog w)).is s.heap k' y) _ ?_ ?_ l _ ⟨rfl,rfl,hl⟩)
 . rintro y jT b s' ⟨rfl,rfl,hr⟩;obtain ⟨k',z,rfl,kz⟩:=hr y (.head _);dsimp only;refine iz (fun _=>ap ⟨rfl,rfl,fun v hv=>hr v (.tail _ hv)⟩) fun _=>?_;refine aj ((tupleKind (bz prog w)).quiet kx ?_);rw [aa (by decide)];refine aj ((tupleKind (bz prog w)).quiet kz ?_);rw [aa (by decide)];refine aj (PN kx ?_);rw [aa (by decide)];refine aj (PN kz ?_);rw [aa (by decide)];exact ap ⟨rfl,rfl,fun v hv=>hr v (.tail _ hv)⟩
 . rintro b s' ⟨rfl,rfl,_⟩;exact ap q
theorem JV {prog:Program} {w:World} {A:Around} {E:Value->Shared->Prop} {s:Shared} {y:Addr} {Q:Bool->Shared->Prop} (q:Q true s):wpAny (model prog w) A (isSame (.ref y) (.ref y)) Q E s:=by
 unfold isSame;dsimp only;rw [ag (beq_self_eq_true y)];exact ap q
theorem Mj {prog:Program} {w:World} {A:Around} {E:Value->Shared->Prop} {s:Shared} {a x:Addr} {es:Array (Int × Value)} {ep:Nat} {t:SetTable} {k:List Key} {h:Int} {Q:SetFound->Shared->Prop} (S:SetIs s.heap a es ep t) (tb:TbOk t es.size) (ru:(tupleKind (bz prog w)).room A) (kx:(tupleKind (bz prog w)).is s.heap k x)
   (el:∀ e∈es.toList,∃ k' y,e.2=.ref y/\(tupleKind (bz prog w)).is s.heap k' y/\k'≠k) (q:∀ j,t.slot j=.empty->Q (.free j false) s) :
   ∀ (m fuel:Nat) {p:SetTable.Probe} (st:Option SetTable.Probe),st.getD (t.probeStart h)=p->PV t.mask p->t.slot (advN t m p).j=.empty->m<fuel->m<=10*(t.mask+14)->wpAny (model prog w) A (setSearchFrom a (.ref x) h true fuel st) Q E s:=by
 intro m
 induction m using Nat.strongRecOn with
 | _ m ih =>
   intro fuel p st hst v he hf hm;obtain ⟨fuel,rfl⟩:∃ f,fuel=f+1:=⟨fuel - 1,by omega⟩;rw [setSearchFrom.eq_def];dsimp only;obtain ⟨o,h1,h2,h3⟩:=id S;refine aj (dF h1 h3 tb.fits ?_);dsimp only;rw [hst];rw [aa (by
     unfold SetTable.gaveWay;rcases tb.mask with e|e|e <;> rw [e] <;> decide)]
   have key:=O9 (t:=t) (ha:=fun i=>(Option.map (fun x=>x.fst) es[i]?).getD 0) (h:=h) tb.nd (10*SetTable.turns t.mask) m v (by unfold SetTable.turns;omega) he;split
   . rename_i met hmet
     rcases key with ⟨j,e,he'⟩|⟨j,i,next,c,e,hl,hh,cm,pv,he'⟩
     . obtain rfl:met=.empty j none:=bi (hmet.symm.trans e);exact ap (q j he')
     . obtain rfl:met=.candidate j i next:=bi (hmet.symm.trans e);dsimp only;have hp:=G0 hl;have il:i<es.size:=(by rw [<- tb.pl];exact (cZ.mp hp).1);have hen:es[i]?=some es[i]:=fk il;obtain ⟨k',y,ey,ky,nk⟩:=el es[i] (by simp);have stay:∀ (R:SetFound->Shared->Prop),True:=fun _=>trivial;refine iz (fun _=>?_) (fun _=>?_)
       . refine aj (UY kx (fun v hv=>?_) ?_)
         . obtain ⟨e0,he0,rfl⟩:=aY.mp hv;obtain ⟨k2,y2,a1,a2,_⟩:=el e0 (by
             have:=Array.mem_filter.mp (Array.mem_def.mpr he0);exact Array.mem_def.mp this.1)
           exact ⟨k2,y2,a1,a2⟩
         . rw [aa (by decide),hen];dsimp only;rw [ey];refine aj (cV ((tupleKind (bz prog w)).eqBool ru ky kx ?_));rw [bH nk];refine aj (dF h1 h3 tb.fits ?_);rw [aa (by decide),show SetTable.sameMemory t t.moves t.mask=some true by unfold SetTable.sameMemory;rw [ag (beq_self_eq_true _)]];dsimp only;rw [ag rfl,hl];dsimp only;rw [hen];dsimp only;rw [ey];refine aj (JV ?_);refine aj (ap ?_);rw [ag rfl];dsimp only;rw [aa (by decide)];exact ih c cm fuel (some next) rfl pv he' (by omega) (by omega)
       . rw [hen];dsimp only;rw [ey];refine aj (cV ((tupleKind (bz prog w)).eqBool ru ky kx ?_));rw [bH nk];refine aj (dF h1 h3 tb.fits ?_);rw [aa (by decide),show SetTable.sameMemory t t.moves t.mask=some true by unfold SetTable.sameMemory;rw [ag (beq_self_eq_true _)]];dsimp only;rw [ag rfl,hl];dsimp only;rw [hen];dsimp only;rw [ey];refine aj (JV ?_);refine aj (ap ?_);rw [ag rfl];dsimp only;rw [aa (by decide)];exact ih c cm fuel (some next) rfl pv he' (by omega) (by omega)
   . rename_i hmet
     rcases key with ⟨j,e,_⟩|⟨j,i,next,c,e,_⟩
     . exact (hmet _ e).elim
     . exact (hmet _ e).elim
theorem GK {mask:Nat} {owner:Array (Option Nat)}:∀ (n fuel i q:Nat),n<fuel->(owner.getD (lp mask n (i,q)).1 (some 0)).isNone=true->∃ j,SetTable.layClean.free mask owner fuel i q=some j/\(owner.getD j (some 0)).isNone=true
 | n,0,i,q,h,_=>absurd h (iC _)
 | n,fuel+1,i,q,h,he=>by
   rw [SetTable.layClean.free.eq_def];dsimp only;cases hf:List.find? (fun k=>(owner.getD (i+k) (some 0)).isNone) (List.range (SetTable.runEnd mask i+1 - i)) with
   | some k=>exact ⟨i+k,rfl,List.find?_some (p:=fun k=>(owner.getD (i+k) (some 0)).isNone) hf⟩
   | none =>
     cases n with
     | zero =>
       exfalso
       have:=List.find?_eq_none.mp hf 0 (bD.mpr (by unfold SetTable.runEnd;split <;> omega));exact this he
     | succ n=>exact GK n fuel _ _ (by omega) he
theorem PK {f g:Nat->Option (Nat × Nat)} {j:Nat} (hj:f j=none) (hg:∃ x,g j=some x) (ho:∀ i,i≠j->g i=f i):∀ {l:List Nat},l.Nodup->(l.filterMap g).length=(l.filterMap f).length+if j∈l then 1 else 0
 | [],_=>by simp
 | a::l,nd=>by
   obtain ⟨n1,n2⟩:=aE.mp nd;have ih:=PK hj hg ho n2;obtain ⟨x,hx⟩:=hg;by_cases c:a=j
   . subst c;rw [bZ,hx,bZ,hj,ag aw];rw [aa n1] at ih;show (l.filterMap g).length+1=(l.filterMap f).length+1;omega
   . have m:(if j∈a::l then 1 else 0)=if j∈l then 1 else 0:=by
       by_cases z:j∈l
       . rw [ag z,ag (.tail _ z)]
       . rw [aa z,aa (fun y=>(az.mp y).elim (fun e=>c e.symm) z)]
     rw [m,bZ,bZ,ho a c];cases f a with
     | none=>exact ih
     | some y =>
       show (l.filterMap g).length+1=(l.filterMap f).length+1+_;omega
theorem M4 {f:Nat->Option (Nat × Nat)}:∀ {l:List Nat},(∀ i∈l,f i≠none)->(l.filterMap f).length=l.length
 | [],_=>rfl
 | a::l,h=>by
   have ih:=M4 (l:=l) fun i hi=>h i (.tail _ hi);cases e:f a with
   | none=>exact absurd e (h a (.head _))
   | some y =>
     rw [bZ,e];show (l.filterMap f).length+1=l.length+1;rw [ih]
def lv (M:Nat) (owner:Array (Option Nat)):List (Nat × Nat):=(List.range (M+1)).filterMap fun j=>Option.map (fun x=>(j,x)) (owner.getD j none)
structure LayOk (M:Nat) (owner:Array (Option Nat)) (k:Nat):Prop where
 sz:owner.size=M+1
 cnt:(lv M owner).length=k
 ix:∀ j x,owner.getD j none=some x->x<k
theorem LayOk.put {M:Nat} {owner:Array (Option Nat)} {k j:Nat} (h:LayOk M owner k) (hj:(owner.getD j (some 0)).isNone=true):LayOk M (owner.setIfInBounds j (some k)) (k+1):=by
 have jl:j<owner.size:=by
   refine Classical.byContradiction fun n=>?_;rw [Array.getD_eq_getD_getElem?,Array.getElem?_eq_none (by omega)] at hj;cases hj
 have e0:owner.getD j none=none:=by
   rw [Array.getD_eq_getD_getElem?,fk jl] at hj ⊢
   simpa using hj
 have gj:(owner.setIfInBounds j (some k)).getD j none=some k:=by
   rw [Array.getD_eq_getD_getElem?,Array.getElem?_setIfInBounds_self_of_lt jl]
   rfl
 have go:∀ i,i≠j->(owner.setIfInBounds j (some k)).getD i none=owner.getD i none:=fun i hi=>by
   rw [Array.getD_eq_getD_getElem?,Array.getD_eq_getD_getElem?,iH (by omega)]
 refine ⟨by rw [Array.size_setIfInBounds];exact h.sz,?_,fun i x hx=>?_⟩
 . have:=PK (f:=fun j=>Option.map (fun x=>(j,x)) (owner.getD j none)) (g:=fun i=>Option.map (fun x=>(i,x)) ((owner.setIfInBounds j (some k)).getD i none)) (j:=j) (by show Option.map _ (owner.getD j none)=none;rw [e0];rfl) ⟨(j,k),by show Option.map _ ((owner.setIfInBounds j (some k)).getD j none)=_;rw [gj];rfl⟩ (fun i hi=>by show Option.map _ ((owner.setIfInBounds j (some k)).getD i none)=Option.map _ (owner.getD i none);rw [go i hi]) (kI (n:=M+1));rw [ag (bD.mpr (by have:=h.sz;omega))] at this;show (List.filterMap _ _).length=k+1;rw [this];have:=h.cnt;unfold lv at this;omega
 . by_cases c:i=j
   . rw [c,gj] at hx;injection hx with hx
     omega
   . rw [go i c] at hx;have:=h.ix i x hx;omega
theorem LayOk.room {M:Nat} {owner:Array (Option Nat)} {k:Nat} (h:LayOk M owner k) (hk:k<M+1):∃ j,j<=M/\(owner.getD j (some 0)).isNone=true:=by
 refine Classical.byContradiction fun no=>?_;have:(lv M owner).length=(List.range (M+1)).length:=M4 fun i hi z=>by
   have il:=bD.mp hi;have:owner.getD i none=none:=by
     cases e:owner.getD i none with
     | none=>rfl
     | some x=>rw [e] at z;cases z
   refine no ⟨i,by omega,?_⟩;have sz:=h.sz;rw [Array.getD_eq_getD_getElem?,fk (by omega)] at this ⊢
   simpa using this
 rw [h.cnt,fT] at this;omega
theorem MM (h:Int):SetTable.bits h<2^64:=by
 unfold SetTable.bits;have:=bO h (show (0:Int)<2^64 by decide);have:=bE h (show (2^64:Int)≠0 by decide);omega
theorem JK {M:Nat} (hM:M=31\/M=127):∀ (hs:List Int) {owner:Array (Option Nat)} {k:Nat},LayOk M owner k->k+hs.length<=24->∃ owner',LayOk M owner' (k+hs.length)/\hs.foldl (fun acc h=>do
       let __x <- acc
       match __x with
         | (owner,k)=>do
           let j <- SetTable.layClean.free M owner (SetTable.turns M) (SetTable.bits h % (M+1)) (SetTable.bits h)
           pure (owner.setIfInBounds j (some k),k+1)) (some (owner,k))=some (owner',k+hs.length)
 | [],owner,k,h,_=>⟨owner,h,rfl⟩
 | x::hs,owner,k,h,hk=>by
   rw [aL] at hk;obtain ⟨j0,j1,j2⟩:=h.room (by rcases hM with rfl|rfl <;> omega);obtain ⟨n,n1,n2⟩:=QH (mask:=M) (.inr hM) (p:=(SetTable.bits x % (M+1),SetTable.bits x)) (by show SetTable.bits x % (M+1)<=M;have:=lX (SetTable.bits x) (show 0<M+1 by omega);omega) (MM x) j1;obtain ⟨j,f1,f2⟩:=GK (mask:=M) (owner:=owner) n (SetTable.turns M) (SetTable.bits x % (M+1)) (SetTable.bits x) (by unfold SetTable.turns;omega) (by rw [n2];exact j2);obtain ⟨owner',o1,o2⟩:=JK hM hs (h.put f2) (by omega);rw [show k+1+hs.length=k+(hs.length+1) by omega] at o1 o2;refine ⟨owner',o1,?_⟩;rw [gB];show hs.foldl _ ((SetTable.layClean.free M owner (SetTable.turns M) (SetTable.bits x % (M+1)) (SetTable.bits x)).bind _)=_;rw [f1];exact o2
theorem WR {M:Nat}:LayOk M (Array.replicate (M+1) none) 0:=by
 have g0:∀ j,(Array.replicate (M+1) (none:Option Nat)).getD j none=none:=fun j=>by
   rw [Array.getD_eq_getD_getElem?,Array.getElem?_replicate];split <;> rfl
 refine ⟨by simp,?_,fun j x h=>by rw [g0] at h;cases h⟩;unfold lv;have:(fun j=>Option.map (fun x=>(j,x)) ((Array.replicate (M+1) (none:Option Nat)).getD j none))=fun _=>none:=by
   funext j
   rw [g0]
   rfl
 rw [this]
 induction (List.range (M+1)) with
 | nil=>rfl
 | cons a l ih=>exact ih
theorem UF {M:Nat} (hM:M=31\/M=127) {hs:Array Int} (h24:hs.size<=24) (finger moves:Nat) (led plain:Bool):∃ t3 order,SetTable.laid M finger moves led plain hs=some (t3,order)/\TbOk t3 hs.size/\t3.mask=M/\t3.led=led/\order.size=hs.size/\∀ x∈order.toList,x<hs.size:=by
 obtain ⟨owner,o1,o2⟩:=JK hM hs.toList WR (by rw [dG];omega);have e:SetTable.layClean M hs=some owner:=by
   unfold SetTable.layClean;rw [<- Array.foldl_toList,o2]
   rfl
 rw [kc,dG] at o1;refine ⟨{ mask:=M,place:=((lv M owner).map (fun x=>x.fst)).toArray,dummies:=#[],finger:=finger,led:=led,moves:=moves,plain:=plain },((lv M owner).map (fun x=>x.snd)).toArray,?_,⟨.inr hM,rfl,?_,by show hs.size<=M;rcases hM with rfl|rfl <;> omega⟩,rfl,rfl,?_,fun x hx=>?_⟩
 . unfold SetTable.laid;rw [e]
   rfl
 . rw [aD,ai,o1.cnt]
 . rw [aD,ai,o1.cnt]
 . obtain ⟨y,hy,rfl⟩:=aY.mp hx;unfold lv at hy;obtain ⟨j,_,hj⟩:=gM.mp hy;obtain ⟨z,hz,rfl⟩:=cM.mp hj;exact o1.ix j z hz
theorem Qp {α:Type} {es:Array α}:∀ {l:List Nat},(∀ x∈l,x<es.size)->(l.filterMap fun x=>es[x]?).length=l.length
 | [],_=>rfl
 | a::l,h=>by
   have ih:=Qp (es:=es) (l:=l) fun x hx=>h x (.tail _ hx);rw [bZ,fk (h a (.head _))];show (List.filterMap _ l).length+1=l.length+1;rw [ih]
theorem Rs {prog:Program} {w:World} {A:Around} {E:Value->Shared->Prop} {s:Shared} {a:Addr} {es:Array (Int × Value)} {ep wanted:Nat} {t:SetTable} {M:Nat} (hM:M=31\/M=127) {Q:Unit->Shared->Prop} (S:SetIs s.heap a es ep t) (fit:t.fits es.size=true) (sz:es.size<=24) (hw:SetTable.sizeAbove wanted=M+1)
   (q:∀ h' es' t',SetIs h' a es' (ep+1) t'->TbOk t' es'.size->t'.mask=M->es'.size=es.size->(∀ e∈es'.toList,e∈es.toList)->Heap.SameBut a s.heap h'->Q () { s with heap:=h' }):wpAny (model prog w) A (setRelay a wanted) Q E s:=by
 obtain ⟨o,h1,h2,h3⟩:=id S;obtain ⟨t3,order,e1,e2,e3,e4,e5,e6⟩:=UF hM (hs:=Array.map (fun x=>x.fst) es) (by rw [Array.size_map];exact sz) t.finger (t.movedTo M) t.led t.plain;rw [Array.size_map] at e2 e5 e6;unfold setRelay;refine aj (dF h1 h3 fit ?_);dsimp only;rw [hw,aa (by rcases hM with rfl|rfl <;> decide)];have er:t.relaid (Array.map (fun x=>x.fst) es) wanted=some (t3,order):=by
   unfold SetTable.relaid;rw [hw];exact e1
 rw [er];have sz2:(Array.filterMap (fun x=>es[x]?) order).size=es.size:=by
   rw [<- dG,Array.toList_filterMap,Qp e6,dG,e5]
 refine aj (show wpAny (model prog w) A (if ((Array.filterMap (fun x=>es[x]?) order).size != es.size)=true then (unsupported "internal:set-table-lost-an-element" >>= fun _=>pure (Array.filterMap (fun x=>es[x]?) order,t3)) else pure (Array.filterMap (fun x=>es[x]?) order,t3)) _ _ _ from ?_);rw [aa (by rw [sz2];simp)];refine ap ?_;dsimp only;refine wpAny_storeSet_of h1 h3 (q _ _ _ S.put (by rw [sz2];exact e2) e3 sz2 (fun e he=>?_) ⟨Heap.size_update ..,fun b hb=>Heap.get?_update_ne _ _ _ _ hb⟩) (by rw [sz2];exact bq sz (by decide));rw [Array.toList_filterMap] at he;obtain ⟨x,_,hx⟩:=gM.mp he;rw [<- jg] at hx;exact a8 hx
theorem Vz {prog:Program} {w:World} {A:Around} {E:Value->Shared->Prop} {s:Shared} {x:Addr} {k:List Key} {Q:Bool->Shared->Prop} (kx:(tupleKind (bz prog w)).is s.heap k x) (q:∀ b,Q b s):wpAny (model prog w) A (hashByValue 8 (.ref x)) Q E s:=by
 obtain ⟨o,items,n,h1,h2,h3,h4⟩:=kx;rw [hashByValue.eq_12];refine aj (wpAny_specialOf (T:="tuple") ⟨o,h1,h2⟩ F.slot_tuple_hash.lookup ?_);dsimp only;refine aj (wpAny_seqItems h1 h3 ?_);have hf:=GF h4;rw [show (some items).getD #[Value.ellipsis]=items from rfl];refine aj (wpAny_forIn_array' _ (fun jT b s'=>s'=s/\∀ v∈jT,Flt v) _ ?_ ?_ items _ ⟨rfl,hf⟩)
 . rintro y jT b s' ⟨rfl,hr⟩;rcases hr y (.head _) with ⟨i,t,rfl⟩|⟨z,t,rfl⟩
   . rw [hashByValue.eq_3];refine aj (ap ?_);rw [aa (by decide)];exact ap ⟨rfl,fun v hv=>hr v (.tail _ hv)⟩
   . rw [hashByValue.eq_5];refine aj (ap ?_);rw [ag (by decide)];refine ap ?_;exact ap (q _)
 . rintro ⟨r,u⟩ s' ⟨rfl,_⟩;cases r with
   | none=>exact ap (q _)
   | some r=>exact ap (q _)
theorem Jz (t:SetTable) (h:Int):PV t.mask (t.probeStart h):=by
 unfold SetTable.probeStart;exact ⟨by show SetTable.bits h % (t.mask+1)<=t.mask;have:=lX (SetTable.bits h) (show 0<t.mask+1 by omega);omega,MM h,QO _ _,rfl⟩
theorem Pu {es:Array (Int × Value)} {p:Nat} {x e:Int × Value} (h:e∈(SetTable.insertAt es p x).toList):e∈es.toList\/e=x:=by
 have:=(SetTable.insertAt_perm es p x).mem_iff.mp h;rw [Array.toList_push] at this;rcases aQ.mp this with z|z
 . exact .inl z
 . exact .inr (aB.mp z)
theorem AN {α:Type} (xs:Array α) (p:Nat) (x:α):(SetTable.insertAt xs p x).size=xs.size+1:=by
 have:=(SetTable.insertAt_perm xs p x).length_eq
 simpa using this
def Few (t:SetTable) (n:Nat):Prop:=(t.mask=7->n<=4)/\(t.mask=31->n<=18)
theorem Iu {prog:Program} {w:World} {A:Around} {E:Value->Shared->Prop} {s:Shared} {a x:Addr} {es:Array (Int × Value)} {ep p:Nat} {h:Int} {t tt:SetTable} {Q:Bool->Shared->Prop} (S:SetIs s.heap a es ep t) (tb:TbOk t es.size) (fw:Few t es.size) (h23:es.size<=23) (hm:tt.mask=t.mask) (hd:tt.dummies=#[]) (hp:tt.place.size=es.size+1)
   (q:∀ h' tk es' ep' t',SetIs h' a es' ep' t'->TbOk t' es'.size->Few t' es'.size->es'.size=es.size+1->(∀ e∈es'.toList,e∈es.toList\/e.2=.ref x)->Heap.SameBut a s.heap h'->Q true { s with heap:=h',toks:=tk }) :
   wpAny (model prog w) A (do
     storeSet a (SetTable.insertAt es p (h,.ref x)) tt
     if (!false && tt.tooFull)=true then do
         setRelay a (SetTable.grown (es.size+1))
         pure true
       else pure true) Q E s:=by
 obtain ⟨o,h1,h2,h3⟩:=id S;have sz:(SetTable.insertAt es p (h,Value.ref x)).size=es.size+1:=AN ..;have hn:es.size+1<=24:=by omega
 have tb1:TbOk tt (es.size+1):=⟨by rw [hm];exact tb.mask,hd,hp,by
   rw [hm];rcases tb.mask with z|z|z
   . have:=fw.1 z;omega
   . have:=fw.2 z;omega
   . omega⟩
 have sb:Heap.SameBut a s.heap (s.heap.update a (Obj.putSet (SetTable.insertAt es p (h,Value.ref x)) tt)):=⟨Heap.size_update ..,fun b hb=>Heap.get?_update_ne _ _ _ _ hb⟩;have S1:SetIs (s.heap.update a (Obj.putSet (SetTable.insertAt es p (h,Value.ref x)) tt)) a (SetTable.insertAt es p (h,Value.ref x)) (ep+1) tt:=S.put;have ein:∀ e∈(SetTable.insertAt es p (h,Value.ref x)).toList,e∈es.toList\/e.2=.ref x:=fun e he=>(Pu he).imp id fun z=>by rw [z]
 refine aj (wpAny_storeSet_of h1 h3 ?_ (by rw [sz];exact bq hn (by decide)));refine iz (fun c=>?_) (fun c=>?_)
 . have tf:tt.tooFull=true:=by simpa using c
   unfold SetTable.tooFull SetTable.fill at tf;rw [hd,hp,hm] at tf;have tf':(es.size+1+0)*5 ≥ t.mask*3:=by simpa using tf
   obtain ⟨M,hM,hw⟩:∃ M,(M=31\/M=127)/\SetTable.sizeAbove (SetTable.grown (es.size+1))=M+1/\(M=31->es.size+1<=18):=by
     rcases tb.mask with z|z|z
     . have h4:=fw.1 z;rw [z] at tf';rw [show es.size=4 by omega];exact ⟨31,.inl rfl,by decide,fun _=>by decide⟩
     . have h4:=fw.2 z;rw [z] at tf';rw [show es.size=18 by omega];exact ⟨127,.inr rfl,by decide,fun z=>by cases z⟩
     . rw [z] at tf';omega
   refine aj (Rs (s:={ s with heap:=s.heap.update a (Obj.putSet (SetTable.insertAt es p (h,Value.ref x)) tt) }) hM S1 (by rw [sz];exact tb1.fits) (by rw [sz];omega) hw.1 fun h' es' t' S' tb' m' z' i' sb'=>?_);rw [sz] at z';exact ap (q h' s.toks es' (ep+1+1) t' S' tb' ⟨fun z=>(by rw [m'] at z;subst z;rcases hM with h|h <;> cases h),fun z=>by rw [z'];exact hw.2 (m'.symm.trans z)⟩ z' (fun e he=>ein e (i' e he)) ⟨sb'.1.trans sb.1,fun b hb=>(sb'.2 b hb).trans (sb.2 b hb)⟩)
 . have tf:¬ tt.tooFull=true:=by simpa using c
   unfold SetTable.tooFull SetTable.fill at tf;rw [hd,hp] at tf;have tf':¬ (es.size+1+0)*5 ≥ tt.mask*3:=by simpa using tf
   refine ap (q _ s.toks _ _ tt S1 (by rw [sz];exact tb1) ⟨fun z=>?_,fun z=>?_⟩ sz ein sb)
   . rw [z] at tf';rw [sz];omega
   . rw [z] at tf';rw [sz];omega
theorem T9 {prog:Program} {w:World} {A:Around} {E:Value->Shared->Prop} {s:Shared} {a x:Addr} {es:Array (Int × Value)} {ep:Nat} {t:SetTable} {k:List Key} {Q:Bool->Shared->Prop} (S:SetIs s.heap a es ep t) (tb:TbOk t es.size) (fw:Few t es.size) (h23:es.size<=23) (ru:(tupleKind (bz prog w)).room A) (kx:(tupleKind (bz prog w)).is s.heap k x)
   (el:∀ e∈es.toList,∃ k' y,e.2=.ref y/\(tupleKind (bz prog w)).is s.heap k' y/\k'≠k)
   (q:∀ h' tk es' ep' t',SetIs h' a es' ep' t'->TbOk t' es'.size->Few t' es'.size->es'.size=es.size+1->(∀ e∈es'.toList,e∈es.toList\/e.2=.ref x)->Heap.SameBut a s.heap h'->Q true { s with heap:=h',toks:=tk }):wpAny (model prog w) A (setAdd a (.ref x)) Q E s:=by
 unfold setAdd;refine cV (aj ((tupleKind (bz prog w)).pyHash ru kx ?_));unfold setAddHashed;refine cV ?_;rw [show (100000:Nat)=99999+1 from rfl,setAddHashedIn.eq_def];dsimp only;obtain ⟨o,h1,h2,h3⟩:=id S;refine aj (dF h1 h3 tb.fits ?_);dsimp only;rw [aa (by rw [byScan.eq_1];simp [Value.scannable])];obtain ⟨j0,j1,j2⟩:=tb.empty;obtain ⟨m,m1,m2⟩:=Pm tb.mask (Jz t ((tupleKind (bz prog w)).hash k)) j1;have hm31:t.mask<=127:=by rcases tb.mask with z|z|z <;> omega
 unfold setSearch;refine aj (Mj (s:={ s with toks:=s.toks+(tupleKind (bz prog w)).draws k }) S tb ru kx el (fun j hj=>?_) m 100000 (p:=t.probeStart ((tupleKind (bz prog w)).hash k)) none rfl (Jz t _) (by rw [m2];exact j2) (by omega) m1);dsimp only;refine aj (dF h1 h3 tb.fits ?_);dsimp only;have hd:(t.put j).1.dummies=#[]:=by
   unfold SetTable.put;show (if SetTable.has t.dummies j=true then _ else t.dummies)=#[];rw [tb.dum,aa (by unfold SetTable.has;simp)]
 have hp:(t.put j).1.place.size=es.size+1:=by
   unfold SetTable.put;show (SetTable.insertAt t.place _ j).size=_;rw [AN,tb.pl]
 have go:∀ b:Bool,wpAny (model prog w) A (do
     storeSet a (SetTable.insertAt es (t.put j).2 ((tupleKind (bz prog w)).hash k,.ref x)) (if b=true then (t.put j).1 else { mask:=(t.put j).1.mask,place:=(t.put j).1.place,dummies:=(t.put j).1.dummies,finger:=(t.put j).1.finger,led:=(t.put j).1.led,moves:=(t.put j).1.moves,plain:=false })
     if (!false && (if b=true then (t.put j).1 else { mask:=(t.put j).1.mask,place:=(t.put j).1.place,dummies:=(t.put j).1.dummies,finger:=(t.put j).1.finger,led:=(t.put j).1.led,moves:=(t.put j).1.moves,plain:=false }:SetTable).tooFull)=true then do
         setRelay a (SetTable.grown (es.size+1))
         pure true
       else pure true) Q E { s with toks:=s.toks+(tupleKind (bz prog w)).draws k }:=fun b=>by
   cases b with
   | true=>exact Iu (s:={ s with toks:=s.toks+(tupleKind (bz prog w)).draws k }) (t:=t) S tb fw h23 rfl hd hp q
   | false=>exact Iu (s:={ s with toks:=s.toks+(tupleKind (bz prog w)).draws k }) (t:=t) S tb fw h23 rfl hd hp q
 refine iz (fun _=>?_) (fun _=>?_)
 . exact aj (Vz (s:={ s with toks:=s.toks+(tupleKind (bz prog w)).draws k }) kx fun b=>go b)
 . exact aj (ap (go true))
theorem PY {prog:Program} {w:World} {A:Around} {R:Result->Shared->Prop} {I:Addr} {fp wr:List Addr} {n:Nat} {P:Nat->Value->Prop} {St:Nat->Heap->Prop} (W:Walks prog w A.in1 I fp wr n P St) {S:Addr} (hS:S ∉ fp) (J:Nat->Heap->Prop)
   (step:∀ i v (s:Shared) Q E,i<n->P i v->J i s.heap->(∀ h' tk b,J (i+1) h'->Heap.SameBut S s.heap h'->Q b { s with heap:=h',toks:=tk })->wpAny (model prog w) A.in1 (setAdd S v) Q E s)
   (jf:∀ i h h',J i h->(∀ b o,b ∉ wr->h.get? b=some o->h'.get? b=some o)->J i h') :
   ∀ (k i:Nat) (s:Shared),n - i=k->i<=n->St i s.heap->J i s.heap->(∀ h' tk,J n h'->(∀ b o,b ∉ S::wr->s.heap.get? b=some o->h'.get? b=some o)->R (.ok (.ret .none)) { s with heap:=h',toks:=tk })->codeAny (model prog w) A (.builtin "set.update.loop" { pos:=[.ref S,.ref I] }) R s:=by
 intro k
 induction k with
 | zero =>
   intro i s ek hi st j q;have e:i=n:=by omega
   subst e;refine lI F.entry_set_update_loop ?_;rw [Around.under_plainId F.plain_set_update_loop];unfold Builtin.«set.update.loop»;dsimp only;refine aj (W.done s _ _ st fun h' tk fr=>?_);exact ap (q _ _ (jf _ _ _ j fr) fun b o nb eb=>fr _ _ (fun z=>nb (.tail _ z)) eb)
 | succ k ih =>
   intro i s ek hi st j q;refine lI F.entry_set_update_loop ?_;rw [Around.under_plainId F.plain_set_update_loop];unfold Builtin.«set.update.loop»;dsimp only;refine aj (W.item i s _ _ (by omega) st fun v h' tk pv st' fr=>?_);dsimp only;have j':=jf i s.heap h' j fr;refine aj (cV (step i v { s with heap:=h',toks:=tk } _ _ (by omega) pv j' fun h'' tk' b j'' sb=>?_));refine ap ⟨Code.quiet_builtin _ (by decide +kernel),ih (i+1) _ (by omega) (by omega) (W.frame _ _ _ st' fun b hb o eo=>?_) j'' fun h3 tk3 j3 fr3=>?_⟩
   . exact (sb.2 b (fun z=>hS (z ▸ hb))).trans eo
   . exact q h3 tk3 j3 fun b o nb eb=>fr3 b o nb ((sb.2 b (fun z=>nb (z ▸ .head _))).trans (fr b o (fun z=>nb (.tail _ z)) eb))
theorem P4 {prog:Program} {w:World} {A:Around} {E:Value->Shared->Prop} {s:Shared} {l a:Addr} {items:Array Value} {Q:Value->Shared->Prop} (hd:A.handled=none) (hl:s.heap.IsList l items) (na:a≠l) (S0:SetIs s.heap a #[] 0 (SetTable.fresh 0 0 (LED w)))
   (J:Nat->Heap->Prop) (j0:J 0 s.heap)
   (step:∀ i v (s:Shared) Q E,items[i]?=some v->J i s.heap->(∀ h' tk b,J (i+1) h'->Heap.SameBut a s.heap h'->Q b { s with heap:=h',toks:=tk })->wpAny (model prog w) A.in1.in1 (setAdd a v) Q E s)
   (jf:∀ i h h',J i h->(∀ b o,b<s.heap.objs.size->h.get? b=some o->h'.get? b=some o)->J i h')
   (q:∀ h' tk,J items.size h'->(∀ b o,b≠a->s.heap.get? b=some o->h'.get? b=some o)->Q .none { s with heap:=h',toks:=tk }) :
   wpAny (model prog w) A (call (.builtin "set.__init__") [.ref a,.ref l]) Q E s:=by
 obtain ⟨o,h1,h2,h3⟩:=id S0;have ty:s.TypeIs (.ref a) "set":=⟨o,h1,h2.1⟩;refine jm (codeAny_call_builtin iW.plain F.entry_set_init (check_set_init_1 ty ?_));unfold Builtin.«set.__init__»;refine aj (show wpAny (model prog w) A.in1 (pure ()) _ _ _ from ap ?_);dsimp only;refine aj (Sd ty fun nm=>?_);refine aj (show wpAny (model prog w) A.in1 (pure ()) _ _ _ from ap ?_);refine aj (show wpAny (model prog w) A.in1 (pure a) _ _ _ from ap ?_);refine aj ?_;unfold setUsed;refine aj (dF h1 h3 rfl ?_);refine ap ?_;rw [aa (show ¬ ((#[],0,SetTable.fresh 0 0 (LED w)).snd.snd.fill != 0)=true from fun z=>aV z)];refine aj ?_;unfold Builtin.Frozenset.updateFrom;refine aj (US hl ?_);rw [aa (by decide)];refine aj (wpAny_typeOf hl.typeIs ?_);rw [aa (by decide)];refine aj (jV hl ?_);have lt:=aG h1;have llt:l<s.heap.objs.size:=by
   obtain ⟨o',e',_⟩:=id hl;exact aG e'
 refine aj (wpAny_runValue (PY (A:=A.in1) (Walks.list (A:=A.in1.in1) hd s.heap.objs.size l (aO llt) items) (S:=a) (fun z=>?_) J (fun i v s' Q' E' _ pv j k=>step i v s' Q' E' pv j k) (fun i h h' j fr=>jf i h h' j fun b o hb eb=>fr b o (fun z=>aO hb (aB.mp z)) eb) items.size 0 _ (by omega) (bo _) ⟨⟨_,bg _ rfl,rfl,rfl⟩,hl.push _⟩ (jf 0 _ _ j0 fun b o _ eb=>aJ _ eb) fun h' tk jn fr=>?_))
 . rcases az.mp z with e|e
   . exact aO lt e
   . exact na (aB.mp e)
 . refine ap ?_;refine ap ?_;refine q h' tk jn fun b o nb eb=>fr b o (fun z=>?_) (aJ _ eb);rcases az.mp z with e|e
   . exact nb e
   . exact aO (aG eb) (aB.mp e)
theorem tz {prog:Program} {w:World} {h h':Heap} {k:List Key} {x:Addr} (kx:(tupleKind (bz prog w)).is h k x) (e:∀ o,h.get? x=some o->h'.get? x=some o):(tupleKind (bz prog w)).is h' k x:=by
 obtain ⟨o,items,n,h1,r⟩:=kx;exact ⟨o,items,n,e o h1,r⟩
theorem Rr {prog:Program} {w:World} {A:Around} {E:Value->Shared->Prop} {s:Shared} {l:Addr} {items:Array Value} {kss:List (List Key)} {Q:Value->Shared->Prop} (hd:A.handled=none) (hr:(tupleKind (bz prog w)).room A.in1.in1.in1) (hl:s.heap.IsList l items) (hk:items.size=kss.length) (h23:items.size<=24) (nd:kss.Nodup)
   (ki:∀ (i:Nat) (v:Value),items[i]?=some v->∃ x,v=Value.ref x/\∃ k,kss[i]?=some k/\(tupleKind (bz prog w)).is s.heap k x)
   (q:∀ h' tk' es ep t,SetIs h' s.heap.objs.size es ep t->t.fits es.size=true->es.size=items.size->(∀ b o,s.heap.get? b=some o->h'.get? b=some o)->Q (.ref s.heap.objs.size) { s with heap:=h',toks:=tk' }):wpAny (model prog w) A (call (.type "set") [.ref l]) Q E s:=by
 have llt:l<s.heap.objs.size:=by
   obtain ⟨o',e',_⟩:=id hl;exact aG e'
 refine PL fun h' S0 kp=>?_;have hl':h'.IsList l items:=by
   obtain ⟨o,e,r⟩:=id hl;exact ⟨o,kp _ _ e,r⟩
 have xlt:∀ {k:List Key} {x:Addr},(tupleKind (bz prog w)).is s.heap k x->x<s.heap.objs.size:=fun kx=>let ⟨_,_,_,e,_⟩:=kx;aG e;have alt:s.heap.objs.size<h'.objs.size:=S0.lt;refine P4 (A:=A.in1) (s:={ s with heap:=h' }) hd hl' (kg llt) S0 (fun i h=>(∃ es ep t,SetIs h s.heap.objs.size es ep t/\TbOk t es.size/\Few t es.size/\es.size=i/\∀ e∈es.toList,∃ j x k,j<i/\kss[j]?=some k/\e.2=.ref x/\(tupleKind (bz prog w)).is h k x/\x<s.heap.objs.size)/\∀ (j:Nat) v,items[j]?=some v->∃ x,v=.ref x/\∃ k,kss[j]?=some k/\(tupleKind (bz prog w)).is h k x/\x<s.heap.objs.size) ⟨⟨_,_,_,S0,⟨.inl rfl,rfl,rfl,bo _⟩,⟨fun _=>bo _,fun _=>bo _⟩,rfl,fun e he=>by simp at he⟩,fun j v hv=>?_⟩ ?_ ?_ fun h'' tk' jn fr=>⟨rfl,?_⟩
 . obtain ⟨x,e,k,k1,k2⟩:=ki j v hv;exact ⟨x,e,k,k1,tz k2 fun o eo=>kp _ _ eo,xlt k2⟩
 . rintro i v s' Q' E' hv ⟨⟨es,ep,t,S,tb,h7,ez,el⟩,kh⟩ k;obtain ⟨x,rfl,kx,k1,k2,xl⟩:=kh i v hv;have il:i<items.size:=(cZ.mp hv).1;refine T9 S tb h7 (by omega) hr k2 (fun e he=>?_) fun h1 tk es' ep' t' S' tb' h7' z' i' sb=>k h1 tk true ⟨⟨es',ep',t',S',tb',h7',by omega,fun e he=>?_⟩,fun j v hv'=>?_⟩ sb
   . obtain ⟨j,y,ky,j1,j2,j3,j4,_⟩:=el e he;refine ⟨ky,y,j3,j4,fun z=>?_⟩;have:=(List.getElem?_inj (by rw [<- hk];omega) nd).mp (j2.trans (by rw [z,k1]));omega
   . rcases i' e he with z|z
     . obtain ⟨j,y,ky,j1,j2,j3,j4,j5⟩:=el e z;exact ⟨j,y,ky,by omega,j2,j3,tz j4 fun o eo=>(by rw [sb.2 y (aO j5)];exact eo),j5⟩
     . exact ⟨i,x,kx,by omega,k1,z,tz k2 fun o eo=>(by rw [sb.2 x (aO xl)];exact eo),xl⟩
   . obtain ⟨y,e,ky,a1,a2,a3⟩:=kh j v hv';exact ⟨y,e,ky,a1,tz a2 fun o eo=>(by rw [sb.2 y (aO a3)];exact eo),a3⟩
 . rintro i h h2 ⟨⟨es,ep,t,⟨o,c1,c2,c3⟩,tb,h7,ez,el⟩,kh⟩ fr;have fr':∀ b o,b<h'.objs.size->h.get? b=some o->h2.get? b=some o:=fr;refine ⟨⟨es,ep,t,⟨o,fr' _ _ alt c1,c2,c3⟩,tb,h7,ez,fun e he=>?_⟩,fun j v hv=>?_⟩
   . obtain ⟨j,y,ky,j1,j2,j3,j4,j5⟩:=el e he;exact ⟨j,y,ky,j1,j2,j3,tz j4 fun o eo=>fr' _ _ (oC j5 alt) eo,j5⟩
   . obtain ⟨y,e,ky,a1,a2,a3⟩:=kh j v hv;exact ⟨y,e,ky,a1,tz a2 fun o eo=>fr' _ _ (oC a3 alt) eo,a3⟩
 . obtain ⟨⟨es,ep,t,S,tb,_,ez,_⟩,_⟩:=jn;exact q h'' tk' es ep t S tb.fits ez fun b o eb=>fr b o (aO (aG eb)) (kp b o eb)
def TK (t:TA):TE:=fun σ H Q=>t σ H fun xs H1=>∃ (l:Addr) (qs:List Addr) (kss:List (List Int)),xs=[.ref l]/\H1 l=some (.lst (qs.map V.ref))/\Paired (fun q k=>H1 q=some (.tup (k.map V.int))) qs kss/\kss.Nodup/\qs.length<=24/\Q (.int qs.length) H1
theorem G7 {α β:Type} {f:α->β} (hf:∀ a b,f a=f b->a=b):∀ {l:List α},l.Nodup->(l.map f).Nodup
 | [],_=>iX
 | a::l,h=>by
   obtain ⟨h1,h2⟩:=aE.mp h;refine aE.mpr ⟨fun z=>?_,G7 hf h2⟩;obtain ⟨b,hb,e⟩:=aY.mp z;exact h1 (hf b a e ▸ hb)
theorem QF {X:Cx} {e:Expr} {t:TA} {p p2 pos pos2:Pos} (hc:X.calm=true) (hv:X.A.units+64<cLine) (hg:Gl X "len") (hm:X.mg "len"=none) (hg2:Gl X "set") (hm2:X.mg "set"=none) (ha:PA X [e] t) (he:starEach [e] X.env=(false,eval e X.env)::starEach [] X.env:=by rfl) :
   PE X (.Call (.Name "len" p) [.Call (.Name "set" p2) [e] [] pos2] [] pos) (TK t):=by
 intro pins s σ H Q I h;refine d7 (t8 I hg hm mt ?_ (by decide) (by decide));refine iq ?_ rfl rfl;show wpAny _ _ (spliced ((false,eval (.Call (.Name "set" p2) [e] [] pos2) X.env)::backTo pos (starEach [] X.env))) _ _ s;refine jR ?_;refine d7 (t8 I hg2 hm2 Wg ?_ (by decide) (by decide));refine dv (xq (ha pos2 pins s σ H _ I h) fun us s1 vs H1 I1 r1 q1=>?_) he rfl;obtain ⟨l,qs,kss,rfl,hl,pk,nd,q10,q⟩:=q1;obtain ⟨u,rfl,ru⟩:=wK r1;cases ru;obtain ⟨its,rv,pl,hz⟩:=I1.list (SqL.of (K:=X.K) hl);have hh:X.A.handled=none:=I1.ok.hd hc;have li:its.length=qs.length:=by rw [<- rv.length,ai]
 have lk:qs.length=kss.length:=Paired.length pk;refine Rr (kss:=kss.map (·.map Sum.inl)) hh (show X.A.units+1+1+1<cLine by omega) pl.isList (by rw [aD,ai];omega) (by rw [aD];omega) ?_ (fun i v hv'=>?_) fun h' tk es ep t' S fit ez kp=>?_
 . refine G7 (fun a b e=>?_) nd;have:=congrArg (fun l:List Key=>l.map fun k=>match k with|.inl i=>i|.inr _=>0) e
   simpa [Function.comp_def] using this
 . have hi:its[i]?=some v:=by simpa using hv'
   have il:i<qs.length:=by rw [<- li];exact (aq.mp hi).1
   obtain ⟨u,hu,ru⟩:=rv.get (i:=i) (x:=V.ref qs[i]) (by rw [aP,ax il];rfl);rw [hi] at hu;cases hu;obtain ⟨k,hk,ek⟩:=Pb.pr_get pk (ax il);refine ⟨qs[i],ru,k.map Sum.inl,by rw [aP,hk];rfl,yQ I1.hok ?_⟩;rw [ek,oG]
   rfl
 . have I2:Inv X pins σ H1 { s1 with heap:=h',toks:=tk }:=I1.kept (t':=tk) kp;refine kG ?_;obtain ⟨o,h1,h2,h3⟩:=S;have ez':es.size=qs.length:=by rw [ez,aD,li]
   refine call_len_set (s:={ s1 with heap:=h',toks:=tk }) h1 h2 h3 fit (by rw [ez'];omega) ?_;refine ⟨.int qs.length,H1,I2.tok _,⟨_,by rw [ez']⟩,q⟩
end L2
set_option maxHeartbeats 4000000
namespace Pk
open PySem L2 Pb
seal L2.PSs L2.PS L2.PE L2.PT L2.PW L2.PA L2.PG L2.PGs L2.PI L2.PTs L2.PC L2.PPs L2.PO
abbrev top (i:Nat):Stmt:=Hd.top i
local macro_rules|`(tactic| walk_at "rd") => `(tactic| ((try dsimp only [tYes, V2, Nx, T5, Ends.less, GJ, Nb, KG, Qw, Ng, TU, Wf, QG, GL, Si, OS, RZ, Ny, NQ, TD, T4, SY, Vc, QX, GC, PX, Th, TX, OI, tNext, K7, ES, Tc, OV, gNil, Q9, TW, TY, Ob, VH, TR, TN, VD, ipI, Ki, O5, HW, tB, E4, tC, Gg, tOp, tUn, rI0, rI, rU, rEq, rNe, OC, T3, OY, Oj, tNil, Rf, SL, tCB, tBM, Rn, RU, RS, SJ, TJ, Gq, OD, NG, OB, Qf, yu, QS, tDNewT, RH, tOr, Rx, Nq, Vp, Od, tIf, f9, bC, List.set_cons_zero, jH, lV, lR]);(try simp only [tYes, V2, Nx, T5, Ends.less, GJ, Nb, KG, Qw, Ng, TU, Wf, QG, GL, Si, OS, RZ, Ny, NQ, TD, T4, SY, Vc, QX, GC, PX, Th, TX, OI, tNext, K7, ES, Tc, OV, gNil, Q9, TW, TY, Ob, VH, TR, TN, VD, ipI, Ki, O5, HW, tB, E4, tC, Gg, tOp, tUn, rI0, rI, rU, rEq, rNe, UW, UR, U5, Uj, T6, UH, OC, T3, OY, Oj, tNil, Rf, SL, tCB, tBM, Rn, RU, RS, SJ, TJ, Gq, OD, NG, OB, Qf, yu, QS, tDNewT, RH, tOr, Rx, Nq, Vp, Od, tIf, f9, bC, List.set_cons_zero, jH, lV, lR, Option.some.injEq, V.int.injEq, V.bl.injEq, V.ref.injEq, List.cons.injEq, exists_eq_left, exists_eq_left', exists_and_left, exists_const, and_true, true_and, aU, fS, k7, Bool.true_eq_false, dU, if_true, if_false])))
set_option genSizeOf false in
set_option genInjectivity false in
structure Txt (K:PySem.W.Frag) (mg:Str->Option Value) where
 BadWeb:Addr
 WI:mg "BadWeb"=some (.ref BadWeb)
 NoPlace:Addr
 QR:mg "NoPlace"=some (.ref NoPlace)
 NoRoad:Addr
 R9:mg "NoRoad"=some (.ref NoRoad)
 BadLaying:Addr
 Lw:mg "BadLaying"=some (.ref BadLaying)
 BadWish:Addr
 Qo:mg "BadWish"=some (.ref BadWish)
 Web:Addr
 Wo:mg "Web"=some (.ref Web)
 QQ:FW K NoPlace
 To:FW K NoRoad
 Mw:FW K BadLaying
 Qx:FW K BadWish
 range:mg "range"=none
 len:mg "len"=none
 isinstance:mg "isinstance"=none
 all:mg "all"=none
 int:mg "int"=none
 bool:mg "bool"=none
 tuple:mg "tuple"=none
 list:mg "list"=none
 reversed:mg "reversed"=none
 sorted:mg "sorted"=none
 min:mg "min"=none
 max:mg "max"=none
 str:mg "str"=none
 set:mg "set"=none
 c_MOST_PLACES:∃ t,mg "MOST_PLACES"=some (.int 24 t)
 c_LEAST_TOLL:∃ t,mg "LEAST_TOLL"=some (.int 2 t)
 c_MOST_TOLL:∃ t,mg "MOST_TOLL"=some (.int 1000000 t)
 si:Cls K Web
 n_many:NoAttr K Web "many"
 n_roads:NoAttr K Web "roads"
section
variable {P:Program} {w:World} {K:PySem.W.Frag} {mg:Str->Option Value} {base:Heap} {CX:CXT}
def wW (T:Txt K mg):Sp:=fun vs H Q _=>∃ (m:Int) (t:Addr) (xs:List V),vs=[.int m,.ref t]/\SqT K H t xs/\1<=m/\m<=24/\(xs.length:Int)=m - 1/\Q .non H
abbrev dA:Stmt:=top 16
theorem EL:FnScope ["many","roads"] ["many","roads"] (ae dA):=FnScope.of (by kernel_rfl)
theorem sB:NmL (ae dA) "many":=.of (by kernel_rfl)
theorem yD:NmL (ae dA) "roads":=.of (by kernel_rfl)
theorem mK:NmG (ae dA) "MOST_PLACES":=.of (by kernel_rfl)
theorem Lf:NmG (ae dA) "BadWeb":=.of (by kernel_rfl)
theorem oF:NmG (ae dA) "len":=.of (by kernel_rfl)
theorem FB (T:Txt K mg) (hq:cR (CXe P w)) {f:Addr} {fd:FuncData} (D:Df K mg "check_counts" dA ["many","roads"] f fd):FnOk P w K mg base (CXe P w) 1 f fd ["many","roads"] (wW T):=by
 refine D.F.okC EL (fun vs H Q E h=>?_) (fun cdv A outer s H vs Q E hr h=>?_)
 . obtain ⟨m,t,xs,rfl,_⟩:=h
   rfl
 . obtain ⟨m,t,xs,rfl,ht,h1,h2,hl,k⟩:=h;refine ⟨_,(ay (dj (jo (Jt EE EE aF (pvl 0 sB) (D7 mK.g T.c_MOST_PLACES (hd:=mK.d)))) (aM tM) b5) (aM (dj (bW tV (c8 fE oF.g T.len mt (ah (pvl 1 yD) am) (hn:=oF.n) (hdb:=oF.d)) (bd qN (pvl 0 sB) aF) (bK _)) (aM tM) b5))),?_⟩;rw [show L2.start ["many","roads"] [V.int m,V.ref t]=[some (V.int m),some (V.ref t)] from rfl];walk_at "rd";rw [ag h1,aa (by omega)];exact ⟨xs,.inr ht,by rw [aa (by omega)];exact k⟩
def yd (T:Txt K mg):Sp:=fun vs H Q _=>∃ m n:Int,vs=[.int m,.int n]/\Q (.bl (decide (0<=n) && decide (n<m))) H
abbrev g2:Stmt:=top 15
theorem Mz:FnScope ["many","number"] ["many","number"] (ae g2):=FnScope.of (by kernel_rfl)
theorem Ek:NmL (ae g2) "many":=.of (by kernel_rfl)
theorem Ce:NmL (ae g2) "number":=.of (by kernel_rfl)
theorem LM (T:Txt K mg) (hq:cR (CXe P w)) {f:Addr} {fd:FuncData} (D:Df K mg "is_place" g2 ["many","number"] f fd):FnOk P w K mg base (CXe P w) 1 f fd ["many","number"] (yd T):=by
 refine D.F.okC Mz (fun vs H Q E h=>?_) (fun cdv A outer s H vs Q E hr h=>?_)
 . obtain ⟨m,n,rfl,_⟩:=h
   rfl
 . obtain ⟨m,n,rfl,k⟩:=h;refine ⟨_,(aM (bR (Su EE uO aF (pvl 1 Ce) (pvl 0 Ek)))),?_⟩;rw [show L2.start ["many","number"] [V.int m,V.int n]=[some (V.int m),some (V.int n)] from rfl];walk_at "rd";by_cases c:0<=n
   . simpa [c] using k
   . simpa [c] using k
def Av (T:Txt K mg):Sp:=fun vs H Q _=>∃ (m:Int) (p:Addr) (r:Road),vs=[.int m,.ref p]/\H p=some (.tup (pX r))/\0<=r.a/\r.a<m/\0<=r.b/\r.b<m/\r.a≠r.b/\Q .non H
abbrev eS:Stmt:=top 17
theorem Hq:FnScope ["many","road"] ["many","road"] (ae eS):=FnScope.of (by kernel_rfl)
theorem t6:NmL (ae eS) "many":=.of (by kernel_rfl)
theorem k8:NmL (ae eS) "road":=.of (by kernel_rfl)
theorem iy:NmG (ae eS) "is_place":=.of (by kernel_rfl)
theorem NT:NmG (ae eS) "BadWeb":=.of (by kernel_rfl)
theorem Hj (T:Txt K mg) (hq:cR (CXe P w)) {f:Addr} {fd:FuncData} (D:Df K mg "check_ends" eS ["many","road"] f fd) {ir:Addr} {qM:FuncData} (fq:Df K mg "is_place" g2 ["many","number"] ir qM) (m8:FnOk P w K mg base (CXe P w) 1 ir qM ["many","number"] (yd T)):FnOk P w K mg base (CXe P w) 2 f fd ["many","road"] (Av T):=by
 refine D.F.okC Hq (fun vs H Q E h=>?_) (fun cdv A outer s H vs Q E hr h=>?_)
 . obtain ⟨m,p,r,rfl,_⟩:=h
   rfl
 . obtain ⟨m,p,r,rfl,hp,a0,a1,b0,b1,ne,k⟩:=h;refine ⟨_,(ay (dj (PW.pt (uQ (jo (jU (aZ m8 (hr.mono (by decide)) iy.g fq.m fq.F.kp fq.b .nil (cI hq) (ah (pvl 0 t6) (ah (bI fh (pvl 1 k8) aF (fun _ _=>rfl)) am)) (hdb:=iy.d)))) (yp (jo (jU (aZ m8 (hr.mono (by decide)) iy.g fq.m fq.F.kp fq.b .nil (cI hq) (ah (pvl 0 t6) (ah (bI fh (pvl 1 k8) aF (fun _ _=>rfl)) am)) (hdb:=iy.d))))))) (aM tM) b5) (aM (dj (bW jB (bI fh (pvl 1 k8) aF (fun _ _=>rfl)) (bI fh (pvl 1 k8) aF (fun _ _=>rfl)) (bK _)) (aM tM) b5))),?_⟩;rw [show L2.start ["many","road"] [V.int m,V.ref p]=[some (V.int m),some (V.ref p)] from rfl];walk_at "rd";refine ixT hp rfl ⟨m,r.a,rfl,_,rfl,?_⟩;rw [aa (by simp [a0,a1])];refine ixT hp rfl ⟨m,r.b,rfl,_,rfl,?_⟩;rw [aa (by simp [b0,b1])];refine ixT hp rfl (ixT hp rfl ⟨rfl,?_⟩);rw [aa (by simpa using ne)];exact k
def uu (T:Txt K mg):Sp:=fun vs H Q _=>∃ (t:Addr) (ps:List Addr) (rs:List Road) (n:Int),vs=[.ref t,.int n]/\SqT K H t (ps.map V.ref)/\RoadsAt H ps rs/\rs.length<=1000 /\
 ∀ l H',H l=none->Same H H'->H' l=some (.lst ((fz rs n).map V.int))->Q (.ref l) H'
abbrev eC:Stmt:=top 20
theorem uz:FnScope ["roads","place","ends","road"] ["roads","place"] (ae eC):=FnScope.of (by kernel_rfl)
theorem A1:NmL (ae eC) "roads":=.of (by kernel_rfl)
theorem sO:NmL (ae eC) "place":=.of (by kernel_rfl)
theorem lA:NmL (ae eC) "ends":=.of (by kernel_rfl)
theorem iR:NmL (ae eC) "road":=.of (by kernel_rfl)
theorem Ha (T:Txt K mg) (hq:cR (CXe P w)) {f:Addr} {fd:FuncData} (D:Df K mg "other_ends" eC ["roads","place"] f fd):FnOk P w K mg base (CXe P w) 1 f fd ["roads","place"] (uu T):=by
 refine D.F.okC uz (fun vs H Q E h=>?_) (fun cdv A outer s H vs Q E hr h=>?_)
 . obtain ⟨t,ps,rs,n,rfl,_⟩:=h
   rfl
 . obtain ⟨t,ps,rs,n,rfl,ht,hp,hl,k⟩:=h;refine ⟨_,(ay (bp (i:=2) uz.nd rfl (Or.inl lA.l) (gZ am)) (ay (hZ PassesOwn.never rfl (vH (pvl 0 A1)) (bJ (i:=3) uz.nd rfl (Or.inl iR.l)) (ay (dj (bW jB (bI fh (pvl 3 iR) aF (fun _ _=>rfl)) (pvl 1 sO) (bK _)) (aM (eK (pP PySem.F.plainAttrs_list PySem.F.slot_list_append PySem.F.type_list_append fX (pvl 2 lA) (ah (bI fh (pvl 3 iR) aF (fun _ _=>rfl)) am)))) b5) (aM (dj (bW jB (bI fh (pvl 3 iR) aF (fun _ _=>rfl)) (pvl 1 sO) (bK _)) (aM (eK (pP PySem.F.plainAttrs_list PySem.F.slot_list_append PySem.F.type_list_append fX (pvl 2 lA) (ah (bI fh (pvl 3 iR) aF (fun _ _=>rfl)) am)))) b5)))) (aM (bR (pvl 2 lA))))),?_⟩;rw [show L2.start ["roads","place","ends","road"] [V.ref t,V.int n]=[some (V.ref t),some (V.int n),none,none] from rfl];walk_at "rd";refine ⟨by decide,fun l hn=>?_⟩;have hlen:ps.length=rs.length:=Paired.length hp;refine ⟨⟨_,Same.tup (Same.new _ hn) ht⟩,Cw (xs:=ps.map V.ref) (fun i σ H2=>H2=upd H l (.lst ((fz (rs.take i) n).map V.int))/\∃ v,σ=[some (.ref t),some (.int n),some (.ref l),v]) ⟨rfl,_,rfl⟩ (fun i σ H2 _ z=>by rw [z.1];exact Same.tup (Same.new _ hn) ht) ?_ ?_⟩
   . rintro i x σ H2 hi ⟨rfl,v,rfl⟩;obtain ⟨p,r,rfl,h1,h2,h3⟩:=hp.get hi;have np:p≠l:=dw h3 hn;have hil:i<rs.length:=(aq.mp h2).1;have et:rs.take (i+1)=rs.take i++[r]:=(by rw [b4,h2];rfl);have hb:(fz (rs.take i) n).length<=2000:=bq (IU _ _) (by rw [bu];omega);have hx:∀ o,upd H l o p=some (.tup (pX r)):=fun o=>by rw [aX np];exact h3
     walk_at "rd";refine ixT (hx _) rfl ?_;walk_at "rd";have fin:∀ (ys:List Int),(fz (rs.take i) n++ys)=fz (rs.take (i+1)) n->upd H l (.lst ((fz (rs.take i) n).map V.int++ys.map V.int))=upd H l (.lst ((fz (rs.take (i+1)) n).map V.int)):=fun ys e=>by
       rw [<- aA,e]
     have e1:wL n r=(if r.a=n then [r.b] else [])++(if r.b=n then [r.a] else []):=rfl;by_cases ca:r.a=n
     . rw [ag ca];refine ⟨tyL ao,ixT (hx _) rfl (tD ao (eT (by rw [ai];omega)) ?_)⟩;rw [tJ];refine ixT (hx _) rfl ?_;walk_at "rd";by_cases cb:r.b=n
       . rw [ag cb];refine ⟨tyL ao,ixT (hx _) rfl (tD ao (eT (by rw [aH,ai];simp;omega)) ?_)⟩;rw [tJ,bX];exact ⟨fin [r.b,r.a] (by rw [et,w5,e1,ag ca,ag cb];rfl),_,rfl⟩
       . rw [aa cb];exact ⟨fin [r.b] (by rw [et,w5,e1,ag ca,aa cb];rfl),_,rfl⟩
     . rw [aa ca];refine ixT (hx _) rfl ?_;walk_at "rd";by_cases cb:r.b=n
       . rw [ag cb];refine ⟨tyL ao,ixT (hx _) rfl (tD ao (eT (by rw [ai];omega)) ?_)⟩;rw [tJ];exact ⟨fin [r.a] (by rw [et,w5,e1,aa ca,ag cb];rfl),_,rfl⟩
       . rw [aa cb];have:=fin [] (by rw [et,w5,e1,aa ca,aa cb];rfl);rw [ff,bC] at this;exact ⟨this,_,rfl⟩
   . rintro σ H2 ⟨rfl,v,rfl⟩;rw [ai,hlen,bx];exact ⟨_,rfl,k l _ hn (Same.new _ hn) ao⟩
def pY (ks:List Int):List (Key × V):=ks.map fun k=>((Sum.inl k:Key),V.bl true)
theorem G4 (ks:List Int):(pY ks).length=ks.length:=by unfold pY;rw [ai]
theorem KQ (ks:List Int) (e:Int):gN (pY ks) (Sum.inl e:Key)=if e∈ks then some (V.bl true) else none:=by
 unfold pY
 induction ks with
 | nil=>rfl
 | cons k ks ih =>
   rw [aK];by_cases c:k=e
   . rw [jd (by rw [c]),ag (by rw [c];exact aw)]
   . rw [jk (fun z=>c (Sum.inl.inj z)),ih];by_cases d:e∈ks
     . rw [ag d,ag (ak _ d)]
     . rw [aa d,aa (fun z=>by rcases az.mp z with z|z;exact c z.symm;exact d z)]
theorem Sc {ks:List Int} {e:Int} (h:e ∉ ks):ip (pY ks) (Sum.inl e:Key) (V.bl true)=pY (ks++[e]):=by
 rw [RB _ (by rw [KQ,aa h])];unfold pY;rw [aA]
 rfl
def wT (T:Txt K mg):Sp:=fun vs H Q _=>∃ (m:Int) (t:Addr) (ps:List Addr) (rs:List Road),vs=[.int m,.ref t]/\SqT K H t (ps.map V.ref)/\RoadsAt H ps rs/\Good m rs/\∀ H',Same H H'->Q .non H'
abbrev cD:Stmt:=top 19
theorem kQ:FnScope ["many","roads","reached","waiting","place","end"] ["many","roads"] (ae cD):=FnScope.of (by kernel_rfl)
theorem Af:NmL (ae cD) "many":=.of (by kernel_rfl)
theorem yN:NmL (ae cD) "roads":=.of (by kernel_rfl)
theorem hG:NmL (ae cD) "reached":=.of (by kernel_rfl)
theorem g9:NmL (ae cD) "waiting":=.of (by kernel_rfl)
theorem rH:NmL (ae cD) "place":=.of (by kernel_rfl)
theorem ko:NmL (ae cD) "end":=.of (by kernel_rfl)
theorem nK:NmG (ae cD) "other_ends":=.of (by kernel_rfl)
theorem ot:NmG (ae cD) "len":=.of (by kernel_rfl)
theorem ME:NmG (ae cD) "BadWeb":=.of (by kernel_rfl)
theorem EZ (T:Txt K mg) (hq:cR (CXe P w)) {f:Addr} {fd:FuncData} (D:Df K mg "check_joined" cD ["many","roads"] f fd) {f7:Addr} {nO:FuncData} (fG:Df K mg "other_ends" eC ["roads","place"] f7 nO) (mw:FnOk P w K mg base (CXe P w) 1 f7 nO ["roads","place"] (uu T)):FnOk P w K mg base (CXe P w) 2 f fd ["many","roads"] (wT T):=by
 refine D.F.okC kQ (fun vs H Q E h=>?_) (fun cdv A outer s H vs Q E hr h=>?_)
 . obtain ⟨m,t,ps,rs,rfl,_⟩:=h
   rfl
 . obtain ⟨m,t,ps,rs,rfl,ht,hp,g,k⟩:=h;have hu:=wY hr;refine ⟨_,(ay (bp (i:=2) kQ.nd rfl (Or.inl hG.l) (U9 (RM aF uR Uc) rfl rfl (List.cons_ne_nil _ _) (by decide))) (ay (bp (i:=3) kQ.nd rfl (Or.inl g9.l) (gZ (ah aF am))) (ay (zW PassesOwn.never (Ex (pvl 3 g9) (fun _=>rfl)) (ay (bp (i:=4) kQ.nd rfl (Or.inl rH.l) (Ku PySem.F.plainAttrs_list PySem.F.slot_list_pop PySem.F.type_list_pop Jf (pvl 3 g9))) (aM (hZ PassesOwn.never rfl (p7 (aZ mw (hr.mono (by decide)) nK.g fG.m fG.F.kp fG.b .nil (cI hq) (ah (pvl 1 yN) (ah (pvl 4 rH) am)) (hdb:=nK.d))) (bJ (i:=5) kQ.nd rfl (Or.inl ko.l)) (aM (dj (Co (GX hu (pvl 5 ko) (pvl 2 hG))) (ay (Gj hu (pvl 2 hG) (pvl 5 ko) uR rfl) (aM (eK (pP PySem.F.plainAttrs_list PySem.F.slot_list_append PySem.F.type_list_append fX (pvl 3 g9) (ah (pvl 5 ko) am))))) b5)))))) (aM (dj (bW tV (c8 Pw ot.g T.len mt (ah (pvl 2 hG) am) (hn:=ot.n) (hdb:=ot.d)) (pvl 0 Af) (bK _)) (aM tM) b5))))),?_⟩;rw [show L2.start ["many","roads","reached","waiting","place","end"] [V.int m,V.ref t]=[some (V.int m),some (V.ref t),none,none,none,none] from rfl];have m1:=g.m1;have m24:=g.m24;have glen:=g.len;walk_at "rd";intro d hd;refine ⟨ao,[(Sum.inl 0,.bl true)],rfl,by decide,?_⟩;rw [tJ];refine ⟨by decide,fun w0 hw=>?_⟩;have ed:yO [] [((Sum.inl 0:Key),V.bl true)]=pY [0]:=rfl;rw [ed];have ndw:w0≠d:=fun z=>by rw [z,ao] at hw;cases hw
   have hw0:H w0=none:=by rw [aX ndw] at hw;exact hw
   refine F9 (fun n σ H2=>∃ (ks ws:List Int) (v4 v5:Option V),n=2*(m.toNat - ks.length)+ws.length/\σ=[some (.int m),some (.ref t),some (.ref d),some (.ref w0),v4,v5]/\Same H H2/\H2 d=some (.dK (pY ks))/\H2 w0=some (.lst (ws.map V.int))/\JInv m rs ks ws) _ ⟨[0],[0],none,none,rfl,rfl,?_,?_,ao,JInv.start m1⟩ ?_
   . exact Same.trans (Same.new _ hd) (Same.new _ hw)
   . rw [aX ndw.symm,ao]
   rintro n σ H2 NW hN hN2 ⟨ks,ws,v4,v5,rfl,rfl,sm,h1,h2,J⟩;have kl:=fZ (by omega) J.nd J.rng;refine ⟨_,rfl,!(ws.map V.int).isEmpty,.inl ⟨_,SqL.of h2,rfl⟩,?_⟩;rcases iK ws with rfl|⟨ws',p,rfl⟩
   . -- nothing waits: all places have been reached
     have full:=J.all m1 g.jn;refine WC ?_;walk_at "rd";refine ⟨pY ks,h1,?_⟩;rw [G4,aa (by omega)];exact k _ sm
   . rw [iQ] at J h2 hN hN2 ⊢;have e1:(!(List.map V.int (ws'++[p])).isEmpty)=true:=(by simp);rw [e1];refine WB ⟨NW,hN2,?_⟩;walk_at "rd";rw [aA,aK,ff] at h2;refine ⟨tyL h2,Rj h2 ?_⟩;have ndw':d≠w0:=ndw.symm;have sm2:Same H (upd H2 w0 (.lst (ws'.map V.int))):=fun b o e=>by rw [aX (dw e hw0)];exact sm b o e
     refine ⟨t,ps,rs,p,rfl,Same.tup sm2 ht,RoadsAt.same sm2 hp,by omega,fun l H3 hn s3 hl=>?_⟩;have nlw:w0≠l:=dw (o:=.lst (ws'.map V.int)) ao hn;have nld:d≠l:=dw (o:=.dK (pY ks)) (by rw [aX ndw'];exact h1) hn;have hl0:H l=none:=sm2.free hn;refine ⟨l,rfl,⟨_,SqL.of hl⟩,wZ (K:=K) (xs:=(fz rs p).map V.int) (fun i σ H4=>∃ (v5:Option V),σ=[some (.int m),some (.ref t),some (.ref d),some (.ref w0),some (.int p),v5]/\Same H H4/\H4 l=some (.lst ((fz rs p).map V.int)) /\
       ∃ ks4 ws4:List Int,H4 d=some (.dK (pY ks4))/\H4 w0=some (.lst (ws4.map V.int))/\JMid m rs p ((fz rs p).take i) ks4 ws4 ks ws'.length) ?_ (fun i σ H4 _ z=>by obtain ⟨_,_,_,z,_⟩:=z;exact SqL.of z) ?_ ?_⟩
     . refine ⟨_,rfl,sm2.trans s3,hl,ks,ws',?_,?_,?_⟩
       . exact s3 _ _ (by rw [aX ndw'];exact h1)
       . exact s3 _ _ ao
       . rw [dJ];exact JMid.start J
     . rintro i x σ H4 NI hI hi ⟨v5,rfl,s4,hl4,ks4,ws4,hd4,hw4,M⟩;rw [aP] at hi;obtain ⟨e,he,rfl⟩:∃ e,(fz rs p)[i]?=some e/\V.int e=x:=by
         cases q:(fz rs p)[i]? with
         | none=>rw [q] at hi;cases hi
         | some e=>rw [q] at hi;exact ⟨e,rfl,bi hi⟩
       have er:=R1 g.ok (a8 he);have et:(fz rs p).take (i+1)=(fz rs p).take i++[e]:=(by rw [b4,he];rfl);have st:=M.step er.1 er.2;have k4:=fZ (by omega) M.nd M.rng;have mu4:=M.mu;walk_at "rd";refine ⟨_,DGet.k (k:=Sum.inl e) hd4,?_⟩;rw [KQ];by_cases c:e∈ks4
       . rw [ag c];rw [aa (by simp)];refine hI _ _ ⟨_,rfl,s4,hl4,ks4,ws4,hd4,hw4,?_⟩;rw [et];unfold FG at st;rw [ag c] at st;exact st
       . rw [aa c];rw [ag (by simp)];refine ⟨_,DPut.k (k:=Sum.inl e) hd4 (eT (by rw [G4];omega)),?_⟩;rw [Sc c];have hw5:upd H4 d (.dK (pY (ks4++[e]))) w0=some (.lst (ws4.map V.int)):=(by rw [aX ndw];exact hw4);refine ⟨tyL hw5,tD hw5 (eT (by rw [ai];have:=M.wl;omega)) ?_⟩;have hmid:=M.mu;refine hI _ _ ⟨_,rfl,fun b o z=>?_,?_,ks4++[e],ws4++[e],?_,?_,?_⟩
         . rw [aX (dw z hw0),aX (dw z hd)];exact s4 b o z
         . rw [aX nlw.symm,aX nld.symm];exact hl4
         . rw [aX ndw',ao]
         . rw [ao,aA];rfl
         . rw [et];unfold FG at st;rw [aa c] at st;exact st
     . rintro σ H4 ⟨v5,rfl,s4,hl4,ks4,ws4,hd4,hw4,M⟩;rw [ai,bx] at M;have k4:=fZ (by omega) M.nd M.rng;have mu4:=M.mu;have up4:=M.up;refine hN _ _ _ ?_ ⟨ks4,ws4,some (.int p),v5,rfl,rfl,s4,hd4,hw4,M.done⟩;rw [aH];simp only [aL,fB];omega
def yV (T:Txt K mg):Sp:=fun vs H Q _=>∃ (p:Addr) (r:Road),vs=[.ref p]/\H p=some (.tup (pX r))/\2<=r.t/\r.t<=1000000/\2<=r.u/\r.u<=1000000/\∀ H',Same H H'->Q .non H'
abbrev dX:Stmt:=top 18
theorem yt:FnScope ["road","number"] ["road"] (ae dX):=FnScope.of (by kernel_rfl)
theorem sQ:NmL (ae dX) "road":=.of (by kernel_rfl)
theorem rA:NmL (ae dX) "number":=.of (by kernel_rfl)
theorem oU:NmG (ae dX) "LEAST_TOLL":=.of (by kernel_rfl)
theorem pI:NmG (ae dX) "MOST_TOLL":=.of (by kernel_rfl)
theorem MT:NmG (ae dX) "BadWeb":=.of (by kernel_rfl)
theorem Gc (T:Txt K mg) (hq:cR (CXe P w)) {f:Addr} {fd:FuncData} (D:Df K mg "check_tolls" dX ["road"] f fd):FnOk P w K mg base (CXe P w) 1 f fd ["road"] (yV T):=by
 refine D.F.okC yt (fun vs H Q E h=>?_) (fun cdv A outer s H vs Q E hr h=>?_)
 . obtain ⟨p,r,rfl,_⟩:=h
   rfl
 . obtain ⟨p,r,rfl,hp,t0,t1,u0,u1,k⟩:=h;refine ⟨_,(aM (hZ PassesOwn.never rfl (vH (fJ (ah (bI fh (pvl 0 sQ) aF (fun _ _=>rfl)) (ah (bI fh (pvl 0 sQ) aF (fun _ _=>rfl)) am)))) (bJ (i:=1) yt.nd rfl (Or.inl rA.l)) (aM (dj (jo (Jt EE EE (D7 oU.g T.c_LEAST_TOLL (hd:=oU.d)) (pvl 1 rA) (D7 pI.g T.c_MOST_TOLL (hd:=pI.d)))) (aM tM) b5)))),?_⟩;rw [show L2.start ["road","number"] [V.ref p]=[some (V.ref p),none] from rfl];walk_at "rd";refine ixT hp rfl (ixT hp rfl ⟨cu (by simp),fun q hn=>?_⟩);have e1:upd H q (.tup [.int r.t,.int r.u]) q=some (.tup [.int r.t,.int r.u]):=ao;refine ⟨⟨_,SqT.of e1⟩,Cw (K:=K) (xs:=[.int r.t,.int r.u]) (fun i σ H2=>H2=upd H q (.tup [.int r.t,.int r.u])/\∃ v,σ=[some (.ref p),v]) ⟨rfl,_,rfl⟩ (fun i σ H2 _ z=>by rw [z.1];exact SqT.of e1) ?_ ?_⟩
   . rintro i x σ H2 hi ⟨rfl,v,rfl⟩;have hx:∃ n:Int,x=.int n/\2<=n/\n<=1000000:=by
       match i,hi with
       | 0,hi=>exact ⟨r.t,by simpa using hi.symm,t0,t1⟩
       | 1,hi=>exact ⟨r.u,by simpa using hi.symm,u0,u1⟩
     obtain ⟨n,rfl,n0,n1⟩:=hx;walk_at "rd";rw [ag n0,aa (by omega)];exact ⟨_,rfl⟩
   . rintro σ H2 ⟨rfl,v,rfl⟩;exact k _ (Same.new _ hn)
/-- the attributes of a web -/
def Ff (m:Int) (t:Addr):List (Str × V):=ow "roads" (.ref t) (ow "many" (.int m) [])
theorem Ww:¬ (("many":Str)="roads"):=by decide +kernel
theorem uW (m:Int) (t:Addr):(Ff m t).lookup ("many":Str)=some (.int m):=by
 unfold Ff;rw [qP,aa Ww,qP,ag rfl]
theorem C7 (m:Int) (t:Addr):(Ff m t).lookup ("roads":Str)=some (.ref t):=by
 unfold Ff;rw [qP,ag rfl]
/-- a web of m places and the roads rs stands at p,its tuple at t,the roads' tuples at ps -/
structure WebAt (C:Addr) (H:Hp) (p:Addr) (m:Int) (t:Addr) (ps:List Addr) (rs:List Road):Prop where
 ob:∃ dx,H p=some (.ins C dx (Ff m t))
 tu:H t=some (.tup (ps.map V.ref))
 ro:RoadsAt H ps rs
 go:Good m rs
theorem WebAt.same {C:Addr} {H H':Hp} {p:Addr} {m:Int} {t:Addr} {ps:List Addr} {rs:List Road} (e:Same H H') (h:WebAt C H p m t ps rs):WebAt C H' p m t ps rs :=
 ⟨let ⟨dx,q⟩:=h.ob;⟨dx,e _ _ q⟩,e _ _ h.tu,RoadsAt.same e h.ro,h.go⟩
def sE (T:Txt K mg):Sp:=fun vs H Q _=>∃ (p dx:Addr) (m:Int) (c:Bool) (a:Addr) (ps:List Addr) (rs:List Road),vs=[.ref p,.int m,.ref a]/\H p=some (.ins T.Web dx [])/\SqX K c H a (ps.map V.ref)/\RoadsAt H ps rs/\Good m rs /\
 ∀ t H',H t=none->WebAt T.Web H' p m t ps rs->(∀ b o,H b=some o->b≠p->H' b=some o)->Q .non H'
abbrev cF:Stmt:=Ux (top 11) 0
theorem sG:FnScope ["self","many","roads","kept","road"] ["self","many","roads"] (ae cF):=FnScope.of (by kernel_rfl)
theorem rP:NmL (ae cF) "self":=.of (by kernel_rfl)
theorem jw:NmL (ae cF) "many":=.of (by kernel_rfl)
theorem yw:NmL (ae cF) "roads":=.of (by kernel_rfl)
theorem gV:NmL (ae cF) "kept":=.of (by kernel_rfl)
theorem nz:NmL (ae cF) "road":=.of (by kernel_rfl)
theorem mC:NmG (ae cF) "tuple":=.of (by kernel_rfl)
theorem ms:NmG (ae cF) "check_counts":=.of (by kernel_rfl)
theorem nQ:NmG (ae cF) "check_ends":=.of (by kernel_rfl)
theorem mT:NmG (ae cF) "check_tolls":=.of (by kernel_rfl)
theorem mB:NmG (ae cF) "check_joined":=.of (by kernel_rfl)
theorem Fu (T:Txt K mg) (hq:cR (CXe P w)) {f:Addr} {fd:FuncData} (F:Fun K "__init__" "Web.__init__" cF f fd) {ia:Addr} {wF:FuncData} (jK:Df K mg "check_counts" dA ["many","roads"] ia wF) (sY:FnOk P w K mg base (CXe P w) 1 ia wF ["many","roads"] (wW T)) {j6:Addr} {Ar:FuncData} (my:Df K mg "check_ends" eS ["many","road"] j6 Ar) (wt:FnOk P w K mg base (CXe P w) 2 j6 Ar ["many","road"] (Av T)) {im:Addr} {wM:FuncData} (jL:Df K mg "check_joined" cD ["many","roads"] im wM) (tQ:FnOk P w K mg base (CXe P w) 2 im wM ["many","roads"] (wT T)) {jc:Addr} {yJ:FuncData} (kN:Df K mg "check_tolls" dX ["road"] jc yJ) (uw:FnOk P w K mg base (CXe P w) 1 jc yJ ["road"] (yV T)):FnOk P w K mg base (CXe P w) 3 f fd ["self","many","roads"] (sE T):=by
 refine F.okC sG (fun vs H Q E h=>?_) (fun cdv A outer s H vs Q E hr h=>?_)
 . obtain ⟨p,dx,m,c,a,ps,rs,rfl,_⟩:=h
   rfl
 . obtain ⟨p,dx,m,c,a,ps,rs,rfl,hp,ha,hro,g,k⟩:=h;refine ⟨_,(ay (bp (i:=3) sG.nd rfl (Or.inl gV.l) (fK fN mC.g T.tuple ie (ah (pO rfl (vV (Nc:=["road"]) 1 (by decide +kernel) (by decide +kernel) rfl (by decide +kernel) rfl) (IK c (pvl 2 yw)) (fun _ _ _ _=>(bJ (i:=0) (show (["road"]:List Str).Nodup from by decide +kernel) rfl (Or.inl rfl))) (fun _ _ _ _=>oq) (fun _ _ _ _=>(fK (Gn K rfl) (by rfl) T.tuple ie (ah (pv 0) am)))) am) (hn:=mC.n) (hdb:=mC.d))) (ay (eK (aZ sY (hr.mono (by decide)) ms.g jK.m jK.F.kp jK.b .nil (cI hq) (ah (pvl 1 jw) (ah (pvl 3 gV) am)) (hdb:=ms.d))) (ay (hZ PassesOwn.never rfl (vH (pvl 3 gV)) (bJ (i:=4) sG.nd rfl (Or.inl nz.l)) (ay (eK (aZ wt (hr.mono (by decide)) nQ.g my.m my.F.kp my.b .nil (cI hq) (ah (pvl 1 jw) (ah (pvl 4 nz) am)) (hdb:=nQ.d))) (aM (eK (aZ uw (hr.mono (by decide)) mT.g kN.m kN.F.kp kN.b .nil (cI hq) (ah (pvl 4 nz) am) (hdb:=mT.d)))))) (ay (eK (aZ tQ (hr.mono (by decide)) mB.g jL.m jL.F.kp jL.b .nil (cI hq) (ah (pvl 1 jw) (ah (pvl 3 gV) am)) (hdb:=mB.d))) (ay (QN (pvl 0 rP) (pvl 1 jw) rfl) (aM (QN (pvl 0 rP) (pvl 3 gV) rfl))))))),?_⟩;rw [show L2.start ["self","many","roads","kept","road"] [V.ref p,V.int m,V.ref a]=[some (V.ref p),some (V.int m),some (V.ref a),none,none] from rfl];walk_at "rd";refine ⟨⟨_,ha⟩,fun l hl=>?_⟩;have hlen:ps.length=rs.length:=Paired.length hro;have glen:=g.len;have m24:=g.m24;have hl1:Same H (upd H l (.lst [])):=Same.new _ hl;refine tR (K:=K) (xs:=ps.map V.ref) (fun i ys σ H2=>H2=upd H l (.lst ((ps.take i).map V.ref))/\ys=(ps.take i).map V.ref/\∃ v,σ=[v]) ⟨rfl,rfl,_,rfl⟩ (fun i ys σ H2 _ ⟨z,_⟩=>by rw [z];exact Same.sqX (Same.new _ hl) ha) ?_ ?_
   . rintro i x ys σ H2 N hN hi ⟨rfl,rfl,v,rfl⟩;obtain ⟨q,r,rfl,h1,h2,h3⟩:=hro.get hi;have nq:q≠l:=dw h3 hl;have hil:i<ps.length:=(aq.mp h1).1;have et:ps.take (i+1)=ps.take i++[q]:=(by rw [b4,h1];rfl);walk_at "rd";refine ⟨pX r,.inr ⟨SqT.of (by rw [aX nq];exact h3),ao,eT (by rw [ai,bu];omega),hN _ _ _ ⟨?_,?_,_,rfl⟩⟩⟩
     . rw [tJ,et,aA];rfl
     . rw [et,aA];rfl
   . rintro ys σ H2 ⟨rfl,rfl,v,rfl⟩;rw [ai,bx];refine ⟨l,rfl,ps.map V.ref,.inl ⟨SqL.of ao,fun t ht=>?_⟩⟩;have s1:Same H (upd H l (.lst (ps.map V.ref))):=Same.new _ hl;have s2:Same (upd H l (.lst (ps.map V.ref))) (upd (upd H l (.lst (ps.map V.ref))) t (.tup (ps.map V.ref))):=Same.new _ ht;have ht0:H t=none:=s1.free ht;have ht1:∀ {H':Hp},Same (upd (upd H l (.lst (ps.map V.ref))) t (.tup (ps.map V.ref))) H'->H' t=some (.tup (ps.map V.ref)):=fun e=>e _ _ ao;refine ⟨m,t,ps.map V.ref,rfl,SqT.of ao,g.m1,g.m24,by rw [ai];omega,⟨_,SqT.of ao⟩,?_⟩;refine Jm (K:=K) (xs:=ps.map V.ref) (fun i σ H3=>Same (upd (upd H l (.lst (ps.map V.ref))) t (.tup (ps.map V.ref))) H3/\∃ v,σ=[some (.ref p),some (.int m),some (.ref a),some (.ref t),v]) ⟨Same.refl _,_,rfl⟩ (fun i σ H3 _ ⟨z,_⟩=>SqT.of (ht1 z)) ?_ ?_
     . rintro i x σ H3 N hN hi ⟨s3,v,rfl⟩;have s03:=s1.trans (s2.trans s3);obtain ⟨q,r,rfl,h1,h2,h3⟩:=hro.get hi;have ok:=g.ok r (a8 h2);walk_at "rd";refine ⟨m,q,r,rfl,s03 _ _ h3,ok.a0,ok.a1,ok.b0,ok.b1,ok.ne,?_⟩;exact ⟨q,r,rfl,s03 _ _ h3,ok.t0,ok.t1,ok.u0,ok.u1,fun H4 s4=>hN _ _ ⟨s3.trans s4,_,rfl⟩⟩
     . rintro σ H3 ⟨s3,v,rfl⟩;have s03:=s1.trans (s2.trans s3);walk_at "rd";refine ⟨m,t,ps,rs,rfl,SqT.of (ht1 s3),RoadsAt.same s03 hro,g,fun H4 s4=>?_⟩;have s04:=s03.trans s4;have ntp:t≠p:=fun z=>by rw [z,hp] at ht0;cases ht0
       refine ⟨T.Web,dx,[],s04 _ _ hp,T.si,T.n_many,by decide,?_⟩;refine ⟨T.Web,dx,_,ao,T.si,T.n_roads,by show 1<1000;decide,?_⟩;rw [tJ];refine k t _ ht0 ⟨⟨dx,ao⟩,?_,?_,g⟩ fun b o hb nb=>?_
       . rw [aX ntp];exact ht1 (s3.trans s4)
       . refine Paired.imp' (fun q r hq=>?_) hro;rw [aX (oW hq hp (by intro z;cases z))];exact s04 _ _ hq
       . rw [aX nb];exact s04 _ _ hb
/-- Web(m,roads),at a call: nothing is changed,a new web stands -/
theorem Wl (T:Txt K mg) {H:Hp} {m:Int} {c:Bool} {a:Addr} {ps:List Addr} {rs:List Road} {Q:Addr->Hp->Prop} (ha:SqX K c H a (ps.map V.ref)) (ro:RoadsAt H ps rs) (g:Good m rs)
   (k:∀ x t H',H x=none->H t=none->Same H H'->WebAt T.Web H' x m t ps rs->Q x H') :
   ∀ x dx,H x=none->H dx=none->dx≠x->sE T [.ref x,.int m,.ref a] (upd (upd H dx (.own x)) x (.ins T.Web dx [])) (fun v H2=>v=.non/\Q x H2) E0:=by
 intro x dx hx hdx ne;have hx1:upd H dx (.own x) x=none:=by rw [aX ne.symm];exact hx
 have s0:Same H (upd (upd H dx (.own x)) x (.ins T.Web dx [])):=(Same.new _ hdx).trans (Same.new _ hx1);exact ⟨x,dx,m,c,a,ps,rs,rfl,ao,Same.sqX s0 ha,RoadsAt.same s0 ro,g,fun t H' ht W kp=>⟨rfl,k x t H' hx (s0.free ht) (fun b o e=>kp b o (s0 b o e) (dw e hx)) W⟩⟩
/-- the dict of the tolls of the first roads -/
def UJ (H:Hp) (d:Addr) (rs:List Road) (n:Nat):Prop:=∃ kvs,H d=some (.dT kvs)/\(kvs.length<=2*n/\∀ p∈kvs,∃ a b:Int,p.1=[.inl a,.inl b])/\∀ a b:Int,(∀ i x,i<n->rs[i]?=some x->sd x a b->gN kvs [.inl a,.inl b]=(g8 a b x).map V.int)/\((∀ i x,i<n->rs[i]?=some x->¬ sd x a b)->gN kvs [.inl a,.inl b]=none)
/-- the dict of the tolls of a web -/
structure TollsAt (H:Hp) (d:Addr) (rs:List Road):Prop where
 ex:∃ kvs,H d=some (.dT kvs)/\∀ a b:Int,gN kvs [.inl a,.inl b]=(bM rs a b).map V.int
 ks:∃ kvs,H d=some (.dT kvs)/\kvs.length<=2*rs.length/\∀ p∈kvs,∃ a b:Int,p.1=[.inl a,.inl b]
theorem TollsAt.same {H H':Hp} {d:Addr} {rs:List Road} (e:Same H H') (h:TollsAt H d rs):TollsAt H' d rs:=by
 obtain ⟨kvs,h1,h2⟩:=h.ex;obtain ⟨kws,h3,h4⟩:=h.ks;exact ⟨⟨kvs,e _ _ h1,h2⟩,⟨kws,e _ _ h3,h4⟩⟩
def BG (T:Txt K mg):Sp:=fun vs H Q _=>∃ (l:Addr) (ps:List Addr) (m:Int) (rs:List Road),vs=[.ref l]/\H l=some (.lst (ps.map V.ref))/\RoadsAt H ps rs/\Good m rs/\∀ d H',H d=none->Same H H'->TollsAt H' d rs->Q (.ref d) H'
abbrev eF:Stmt:=top 44
theorem mr:FnScope ["roads","tolls","one","other","there","back"] ["roads"] (ae eF):=FnScope.of (by kernel_rfl)
theorem B8:NmL (ae eF) "roads":=.of (by kernel_rfl)
theorem kZ:NmL (ae eF) "tolls":=.of (by kernel_rfl)
theorem re:NmL (ae eF) "one":=.of (by kernel_rfl)
theorem o8:NmL (ae eF) "other":=.of (by kernel_rfl)
theorem t9:NmL (ae eF) "there":=.of (by kernel_rfl)
theorem uK:NmL (ae eF) "back":=.of (by kernel_rfl)
theorem JG (T:Txt K mg) (hq:cR (CXe P w)) {f:Addr} {fd:FuncData} (D:Df K mg "_law_tolls" eF ["roads"] f fd):FnOk P w K mg base (CXe P w) 1 f fd ["roads"] (BG T):=by
 refine D.F.okC mr (fun vs H Q E h=>?_) (fun cdv A outer s H vs Q E hr h=>?_)
 . obtain ⟨l,ps,m,rs,rfl,_⟩:=h
   rfl
 . obtain ⟨l,ps,m,rs,rfl,hl,ro,g,k⟩:=h;have hu:=wY hr;refine ⟨_,(ay (bp (i:=1) mr.nd rfl (Or.inl kZ.l) Tk) (ay (hZ PassesOwn.never rfl (p7 (pvl 0 B8)) (sg (n:=4) rfl (dE (bJ (i:=2) mr.nd rfl (Or.inl re.l)) (dE (bJ (i:=3) mr.nd rfl (Or.inl o8.l)) (dE (bJ (i:=4) mr.nd rfl (Or.inl t9.l)) (dE (bJ (i:=5) mr.nd rfl (Or.inl uK.l)) qe))))) (ay (Gj hu (pvl 1 kZ) (fJ (ah (pvl 2 re) (ah (pvl 3 o8) am))) (pvl 4 t9) rfl) (aM (Gj hu (pvl 1 kZ) (fJ (ah (pvl 3 o8) (ah (pvl 2 re) am))) (pvl 5 uK) rfl)))) (aM (bR (pvl 1 kZ))))),?_⟩;rw [show L2.start ["roads","tolls","one","other","there","back"] [V.ref l]=[some (V.ref l),none,none,none,none,none] from rfl];walk_at "rd";intro d hd;have s0:=Same.new (.dT []) hd;have hlen:ps.length=rs.length:=Paired.length ro;have glen:=g.len;have m24:=g.m24;refine ⟨⟨_,SqL.of (s0 _ _ hl)⟩,?_⟩;refine wZ (K:=K) (xs:=ps.map V.ref) (fun i σ H2=>Same H H2/\UJ H2 d rs i/\∃ v1 v2 v3 v4,σ=[some (V.ref l),some (V.ref d),v1,v2,v3,v4]) ⟨s0,⟨[],ao,⟨by simp,fun p hp=>nomatch hp⟩,fun a b=>⟨fun i x hi=>absurd hi (iC _),fun _=>rfl⟩⟩,_,_,_,_,rfl⟩ (fun i σ H2 _ z=>SqL.of (z.1 _ _ hl)) ?_ ?_
   . rintro i x σ H2 N hN hx ⟨s2,⟨kvs,hk,⟨hkl,hks⟩,hkv⟩,v1,v2,v3,v4,rfl⟩;obtain ⟨q,r,rfl,h1,h2,h3⟩:=ro.get hx;have hil:i<rs.length:=(aq.mp h2).1;have ok:=g.ok r (a8 h2);walk_at "rd";refine ⟨_,SqT.of (s2 _ _ h3),rfl,_,_,rfl,_,_,rfl,_,_,rfl,_,_,rfl,rfl,?_⟩;refine ⟨cu (by simp),fun p1 n1=>⟨_,DPut.t (k:=[.inl r.a,.inl r.b]) (Same.new (.tup [V.int r.a,V.int r.b]) n1 _ _ hk) ao (eT (by omega)),cu (by simp),fun p2 n2=>?_⟩⟩;have l1:=qO kvs [Sum.inl r.a,Sum.inl r.b] (V.int r.t);have np2:d≠p2:=fun z=>by rw [<- z,ao] at n2;cases n2
     refine ⟨_,DPut.t (k:=[.inl r.b,.inl r.a]) (by rw [aX np2];exact ao) ao (eT (by omega)),hN _ _ ⟨?_,⟨_,ao,?_,?_⟩,_,_,_,_,rfl⟩⟩
     . intro b o hb;have nd:b≠d:=dw hb hd;have b2:=s2 _ _ hb;have nb1:b≠p1:=dw b2 n1;have b3:upd (upd H2 p1 (.tup [V.int r.a,V.int r.b])) d (.dT (ip kvs [Sum.inl r.a,Sum.inl r.b] (V.int r.t))) b=some o:=(by rw [aX nd,aX nb1];exact b2);rw [aX nd,aX (dw b3 n2)];exact b3
     . have l2:=qO (ip kvs [Sum.inl r.a,Sum.inl r.b] (V.int r.t)) [Sum.inl r.b,Sum.inl r.a] (V.int r.u);refine ⟨by omega,fun p hp=>?_⟩;rcases Kd hp with e|⟨q,hq,e⟩
       . exact ⟨_,_,e⟩
       rcases Kd hq with e'|⟨q',hq',e'⟩
       . exact ⟨_,_,e.trans e'⟩
       . obtain ⟨a',b',e2⟩:=hks q' hq';exact ⟨a',b',e.trans (e'.trans e2)⟩
     . intro a' b';have v2:gN (ip (ip kvs [Sum.inl r.a,Sum.inl r.b] (V.int r.t)) [Sum.inl r.b,Sum.inl r.a] (V.int r.u)) [Sum.inl a',Sum.inl b']=if a'=r.b/\b'=r.a then some (V.int r.u) else if a'=r.a/\b'=r.b then some (V.int r.t) else gN kvs [Sum.inl a',Sum.inl b']:=by
         rw [Ke,Ke];simp
       rw [v2];have away:¬ sd r a' b'->(if a'=r.b/\b'=r.a then some (V.int r.u) else if a'=r.a/\b'=r.b then some (V.int r.t) else gN kvs [Sum.inl a',Sum.inl b'])=gN kvs [Sum.inl a',Sum.inl b']:=fun z=>by
         rw [aa (fun w=>z (.inr ⟨w.1.symm,w.2.symm⟩)),aa (fun w=>z (.inl ⟨w.1.symm,w.2.symm⟩))]
       constructor
       . intro j x hj hy jx;by_cases e:j=i
         . subst e;rw [h2] at hy;cases hy;rcases jx with ⟨w1,w2⟩|⟨w1,w2⟩
           . subst w1 w2;rw [aa (fun z=>ok.ne z.1),ag ⟨rfl,rfl⟩,RE ok.ne]
             rfl
           . subst w1 w2;rw [ag ⟨rfl,rfl⟩,Rk ok.ne]
             rfl
         . rw [away fun w=>e (GH g hy h2 jx w)];exact (hkv a' b').1 j x (by omega) hy jx
       . intro z;rw [away (z i r (by omega) h2)];exact (hkv a' b').2 fun j x hj hx=>z j x (by omega) hx
   . rintro σ H2 ⟨s2,⟨kvs,hk,⟨hkl,hks⟩,hkv⟩,v1,v2,v3,v4,rfl⟩;rw [ai,hlen] at hkv;walk_at "rd";refine k d H2 hd s2 ⟨⟨kvs,hk,fun a b=>?_⟩,⟨kvs,hk,by rw [ai,hlen] at hkl;exact hkl,hks⟩⟩;by_cases z:∃ (i:Nat) (x:Road),rs[i]?=some x/\sd x a b
     . obtain ⟨i,x,hi,j⟩:=z;rw [(hkv a b).1 i x (aq.mp hi).1 hi j,wE g hi j]
     . rw [(hkv a b).2 fun i x _ hi j=>z ⟨i,x,hi,j⟩,P9]
       . rfl
       . rintro ⟨x,hx,j⟩;obtain ⟨i,hi⟩:=cg hx;exact z ⟨i,x,hi,j⟩
theorem Km (c i:Int) (i0:0<=i) (i1:i<=1000):CMul 7919 i/\CMul (c % 998244353+7919*i+11) 48271/\CMul ((c % 998244353+7919*i+11)*48271 % 2147483647) ((c % 998244353+7919*i+11)*48271 % 2147483647)/\CMul (((c % 998244353+7919*i+11)*48271 % 2147483647)*((c % 998244353+7919*i+11)*48271 % 2147483647) % 2147483629) (((c % 998244353+7919*i+11)*48271 % 2147483647)*((c % 998244353+7919*i+11)*48271 % 2147483647) % 2147483629)/\CMul ((((c % 998244353+7919*i+11)*48271 % 2147483647)*((c % 998244353+7919*i+11)*48271 % 2147483647) % 2147483629)*(((c % 998244353+7919*i+11)*48271 % 2147483647)*((c % 998244353+7919*i+11)*48271 % 2147483647) % 2147483629)) (((c % 998244353+7919*i+11)*48271 % 2147483647)+12345678901)/\VR ((((c % 998244353+7919*i+11)*48271 % 2147483647)*((c % 998244353+7919*i+11)*48271 % 2147483647) % 2147483629)*(((c % 998244353+7919*i+11)*48271 % 2147483647)*((c % 998244353+7919*i+11)*48271 % 2147483647) % 2147483629)*(((c % 998244353+7919*i+11)*48271 % 2147483647)+12345678901)) 7/\0<=(((c % 998244353+7919*i+11)*48271 % 2147483647)*((c % 998244353+7919*i+11)*48271 % 2147483647) % 2147483629)*(((c % 998244353+7919*i+11)*48271 % 2147483647)*((c % 998244353+7919*i+11)*48271 % 2147483647) % 2147483629)*(((c % 998244353+7919*i+11)*48271 % 2147483647)+12345678901) / 7:=by
 have h3:=bE ((c % 998244353+7919*i+11)*48271) (show (2147483647:Int)≠0 by decide);have h4:=bO ((c % 998244353+7919*i+11)*48271) (show (0:Int)<2147483647 by decide);generalize (c % 998244353+7919*i+11)*48271 % 2147483647=n at h3 h4 ⊢;have h5:=bE (n*n) (show (2147483629:Int)≠0 by decide);have h6:=bO (n*n) (show (0:Int)<2147483629 by decide);generalize n*n % 2147483629=f at h5 h6 ⊢;refine ⟨.inl ⟨by decide,by decide⟩,.inr ⟨by decide,by decide⟩,.inl ⟨by omega,by omega⟩,.inl ⟨by omega,by omega⟩,.inr ⟨by omega,by omega⟩,⟨by decide,by decide⟩,?_⟩;exact mq (g4 (g4 h5 h5) (by omega)) (by decide)
def jP (T:Txt K mg):Sp:=fun vs H Q _=>∃ (a:Addr) (ns:List Int) (k:Int),vs=[.ref a,.int k]/\SqL K H a (ns.map V.int)/\0<=k/\k<=1000/\∀ v,0<=v->Q (.int v) H
abbrev cU:Stmt:=top 40
theorem mE:FnScope ["script","k","cell","near","far"] ["script","k"] (ae cU):=FnScope.of (by kernel_rfl)
theorem kq:NmL (ae cU) "script":=.of (by kernel_rfl)
theorem sZ:NmL (ae cU) "k":=.of (by kernel_rfl)
theorem jq:NmL (ae cU) "cell":=.of (by kernel_rfl)
theorem lW:NmL (ae cU) "near":=.of (by kernel_rfl)
theorem qZ:NmL (ae cU) "far":=.of (by kernel_rfl)
theorem ig:NmG (ae cU) "len":=.of (by kernel_rfl)
theorem KC (T:Txt K mg) (hq:cR (CXe P w)) {f:Addr} {fd:FuncData} (D:Df K mg "_law_drawn" cU ["script","k"] f fd):FnOk P w K mg base (CXe P w) 1 f fd ["script","k"] (jP T):=by
 refine D.F.okC mE (fun vs H Q E h=>?_) (fun cdv A outer s H vs Q E hr h=>?_)
 . obtain ⟨a,ns,i,rfl,_⟩:=h
   rfl
 . obtain ⟨a,ns,i,rfl,ha,i0,i1,k⟩:=h;refine ⟨_,(ay (bp (i:=2) mE.nd rfl (Or.inl jq.l) aF) (ay (dj (bW uO (pvl 1 sZ) (c8 fE ig.g T.len mt (ah (pvl 0 kq) am) (hn:=ig.n) (hdb:=ig.d)) (bK _)) (aM (bp (i:=2) mE.nd rfl (Or.inl jq.l) (bd dY (bI b6 (pvl 0 kq) (pvl 1 sZ) (fun _ _=>rfl)) (bd rN aF aF)))) b5) (ay (dj (PW.pt (rS (bW Fv (c8 fE ig.g T.len mt (ah (pvl 0 kq) am) (hn:=ig.n) (hdb:=ig.d)) aF (bK _)) (tH (bW jB (bd dY (bI b6 (pvl 0 kq) aF (fun _ _=>rfl)) aF) aF (bK _))))) (ay (bp (i:=3) mE.nd rfl (Or.inl lW.l) (bd dY (bd pC (bd nP (bd nP (bd dY (pvl 2 jq) aF) (bd pC aF (pvl 1 sZ))) aF) aF) aF)) (ay (bp (i:=4) mE.nd rfl (Or.inl qZ.l) (bd dY (bd pC (pvl 3 lW) (pvl 3 lW)) aF)) (aM (bp (i:=2) mE.nd rfl (Or.inl jq.l) (bd gA (bd pC (bd pC (pvl 4 qZ) (pvl 4 qZ)) (bd nP (pvl 3 lW) aF)) aF))))) b5) (aM (bR (pvl 2 jq)))))),?_⟩;rw [show L2.start ["script","k","cell","near","far"] [V.ref a,V.int i]=[some (V.ref a),some (V.int i),none,none,none] from rfl];walk_at "rd";refine ⟨_,.inl ha,?_⟩;rw [ai];by_cases z:i<(ns.length:Int)
   . rw [ag z];refine ixS ha (atG i0 z) ⟨⟨by decide,by decide,by decide⟩,_,rfl,p60,?_⟩;have c0:=bE (ns.getD i.toNat 0) (kX p60);generalize ns.getD i.toNat 0 % 10^Int.toNat 60=c at c0 ⊢;obtain ⟨h1,h2,h3,h4,h5,h6,h7⟩:=Km c i i0 i1;refine ⟨_,.inl ha,?_⟩;rw [ai,ag (by omega)];refine ixS ha (atG (by decide) (by omega)) ⟨_,rfl,by decide,?_⟩;by_cases y:ns.getD (0:Int).toNat 0 % 2=1
     . rw [ag y];exact ⟨by decide,h1,h2,by decide,h3,by decide,h4,h5,h6,k _ h7⟩
     . rw [aa y];exact k _ c0
   . rw [aa z];obtain ⟨h1,h2,h3,h4,h5,h6,h7⟩:=Km 0 i i0 i1;refine ⟨_,.inl ha,?_⟩;rw [ai];by_cases x:0<(ns.length:Int)
     . rw [ag x];refine ixS ha (atG (by decide) x) ⟨_,rfl,by decide,?_⟩;by_cases y:ns.getD (0:Int).toNat 0 % 2=1
       . rw [ag y];exact ⟨by decide,h1,h2,by decide,h3,by decide,h4,h5,h6,k _ h7⟩
       . rw [aa y];exact k 0 (by decide)
     . rw [aa x];exact k 0 (by decide)
def Cl (T:Txt K mg):Sp:=fun vs H Q _=>∃ (a:Addr) (ns:List Int),vs=[.ref a]/\SqL K H a (ns.map V.int)/\∀ b H',1<=b->Same H H'->Q (.int b) H'
abbrev gd:Stmt:=top 48
theorem Bh:FnScope ["script","head"] ["script"] (ae gd):=FnScope.of (by kernel_rfl)
theorem A6:NmL (ae gd) "script":=.of (by kernel_rfl)
theorem uE:NmL (ae gd) "head":=.of (by kernel_rfl)
theorem qL:NmG (ae gd) "_law_drawn":=.of (by kernel_rfl)
theorem KA (T:Txt K mg) (hq:cR (CXe P w)) {f:Addr} {fd:FuncData} (D:Df K mg "_law_bound" gd ["script"] f fd) {cC:Addr} {c6:FuncData} (bj:Df K mg "_law_drawn" cU ["script","k"] cC c6) (cQ:FnOk P w K mg base (CXe P w) 1 cC c6 ["script","k"] (jP T)):FnOk P w K mg base (CXe P w) 2 f fd ["script"] (Cl T):=by
 refine D.F.okC Bh (fun vs H Q E h=>?_) (fun cdv A outer s H vs Q E hr h=>?_)
 . obtain ⟨a,ns,rfl,_⟩:=h
   rfl
 . obtain ⟨a,ns,rfl,ha,k⟩:=h;refine ⟨_,(ay (bp (i:=1) Bh.nd rfl (Or.inl uE.l) (bd gA (aZ cQ (hr.mono (by decide)) qL.g bj.m bj.F.kp bj.b .nil (cI hq) (ah (pvl 0 A6) (ah aF am)) (hdb:=qL.d)) aF)) (aM (bR (bI b6 (gZ (ah aF (ah aF (ah aF (ah (bd rN aF aF) am))))) (bd dY (pvl 1 uE) aF) (fun _ _=>rfl))))),?_⟩;rw [show L2.start ["script","head"] [V.ref a]=[some (V.ref a),none] from rfl];walk_at "rd";refine ⟨a,ns,0,rfl,ha,by decide,by decide,fun c c0=>⟨c,rfl,⟨by decide,by decide⟩,⟨by decide,by decide,by decide⟩,cu (by simp),fun q nq=>⟨by decide,?_⟩⟩⟩;have h1:=bE (c / 1200) (show (4:Int)≠0 by decide);have h2:=bO (c / 1200) (show (0:Int)<4 by decide);generalize c / 1200 % 4=j at h1 h2 ⊢;rcases (show j=0\/j=1\/j=2\/j=3 by omega) with z|z|z|z
   . rw [z];exact ixL ao rfl (k _ _ (by decide) (Same.new _ nq))
   . rw [z];exact ixL ao rfl (k _ _ (by decide) (Same.new _ nq))
   . rw [z];exact ixL ao rfl (k _ _ (by decide) (Same.new _ nq))
   . rw [z];exact ixL ao rfl (k _ _ p60 (Same.new _ nq))
def AL (T:Txt K mg):Sp:=fun vs H Q _=>∃ (b:Addr) (ys:List Int) (v:V),vs=[v,.ref b]/\H b=some (.lst (ys.map V.int))/\ys.length<=1000 /\
 ((v=.non/\Q (.bl false) H)\/∃ (a:Addr) (xs:List Int),v=.ref a/\H a=some (.lst (xs.map V.int))/\xs.length=ys.length/\∀ H',Same H H'->Q (.bl (cvL xs ys)) H')
abbrev dZ:Stmt:=top 53
theorem Ht:FnScope ["held","wish"] ["held","wish"] (ae dZ):=FnScope.of (by kernel_rfl)
theorem Ba:NmC (ae dZ) "held":=.of (by kernel_rfl)
theorem BW:NmC (ae dZ) "wish":=.of (by kernel_rfl)
theorem qi:NmG (ae dZ) "all":=.of (by kernel_rfl)
theorem A5:NmG (ae dZ) "range":=.of (by kernel_rfl)
theorem qk:NmG (ae dZ) "len":=.of (by kernel_rfl)
theorem Hy (T:Txt K mg) (hq:cR (CXe P w)) {f:Addr} {fd:FuncData} (D:Df K mg "_law_covers" dZ ["held","wish"] f fd):FnOk P w K mg base (CXe P w) 1 f fd ["held","wish"] (AL T):=by
 refine D.F.okC Ht (fun vs H Q E h=>?_) (fun cdv A outer s H vs Q E hr h=>?_)
 . obtain ⟨b,ys,v,rfl,_⟩:=h
   rfl
 . obtain ⟨b,ys,v,rfl,hb,yl,hv⟩:=h;refine ⟨_,(aM (bR (vX (Wd (FO (pvc 0 Ba))) (yB (c8 (y7 rfl) qi.g T.all E7 (ah (pO rfl (tG (Nc:=["place","held","wish"]) 1 [0,1] (by decide +kernel) rfl (by decide +kernel) rfl (by show ∀ (y:Str × NameKind),y∈_->y.2=NameKind.free->(ae dZ).names.lookup y.1=some NameKind.cell;decide +kernel) rfl (fun _ h=>nC h) (fun i hi=>match i,hi with|0,_=>⟨"held",0,rfl,rfl,rfl,by decide +kernel⟩|1,_=>⟨"wish",1,rfl,rfl,rfl,by decide +kernel⟩|i+2,hi=>absurd hi (by show ¬ i+2<2;omega))) (rF A5.g T.range (ah (c8 fE qk.g T.len mt (ah (pvc 1 BW) am) (hn:=qk.n) (hdb:=qk.d)) am)) (fun _ _ _ _=>(bJ (i:=0) (show (["place","held","wish"]:List Str).Nodup from by decide +kernel) rfl (Or.inl rfl))) (fun _ _ _ _=>oq) (fun _ _ _ _=>(i9 CC (bI (Am K rfl) (pv 1) (pv 0) (fun _ _=>rfl)) (bI (Am K rfl) (pv 2) (pv 0) (fun _ _=>rfl)) (bK _)))) am) (hn:=qi.n) (hdb:=qi.d)))))),?_⟩;rw [show L2.start ["held","wish"] [v,V.ref b]=[some v,some (V.ref b)] from rfl];walk_at "rd";rcases hv with ⟨rfl,k⟩|⟨a,xs,rfl,ha,xl,k⟩
   . rw [aa (fun z=>z rfl)];exact k
   . rw [ag (by simp)];refine ⟨_,.inl (SqL.of hb),?_⟩;rw [ai];refine ⟨by omega,by omega,fun pc nc=>?_⟩;refine sH (fun i zs σ H3=>Same H H3/\H3 pc=some (.lst zs)/\zs=((List.range i).map fun i=>decide (ys.getD i 0<=xs.getD i 0)).map V.bl/\∃ v,σ=[v,some (V.ref a),some (V.ref b)]) ⟨Same.new _ nc,ao,rfl,_,rfl⟩ ?_ ?_
     . rintro i zs σ H3 N hN hi ⟨s3,e3,rfl,v,rfl⟩;rw [gD];have i0:(0:Int)<=(i:Int):=(by omega);have ga:=atG (xs:=xs) i0 (by omega);have gb:=atG (xs:=ys) i0 (by omega);rw [dR] at ga gb;walk_at "rd";refine ixL (s3 _ _ ha) ga (ixL (s3 _ _ hb) gb ⟨_,rfl,_,rfl,e3,eT (by simp;omega),hN _ _ _ ⟨s3.put nc _,ao,?_,_,rfl⟩⟩);rw [iG,aA,aA]
       rfl
     . rintro zs σ H3 ⟨s3,e3,rfl,v,rfl⟩;refine ⟨pc,rfl,_,SqL.of e3,?_⟩;have:=k H3 s3;rw [Pl xl] at this;exact this
def DN (T:Txt K mg):Sp:=fun vs H Q _=>∃ (dt a s:Addr) (d:Bool) (m:Int) (rs:List Road) (xs:List Int) (qs:List Addr) (ss:List Stp),vs=[.ref dt,.ref a,.ref s]/\TollsAt H dt rs/\Good m rs/\H a=some (.lst (xs.map V.int))/\(xs.length:Int)=m/\AtX d H s (qs.map V.ref)/\StepsAt H qs ss /\
 (jW m rs xs ss->∀ l H',H l=none->Same H H'->H' l=some (.lst ((gq rs xs ss ss.length).map V.int))->Q (.ref l) H')/\(¬ jW m rs xs ss->∀ H',Same H H'->Q .non H')
abbrev eA:Stmt:=top 52
theorem qD:FnScope ["tolls","laying","steps","held","a","b","often"] ["tolls","laying","steps"] (ae eA):=FnScope.of (by kernel_rfl)
theorem qo:NmL (ae eA) "tolls":=.of (by kernel_rfl)
theorem Cn:NmL (ae eA) "laying":=.of (by kernel_rfl)
theorem CW:NmL (ae eA) "steps":=.of (by kernel_rfl)
theorem gw:NmL (ae eA) "held":=.of (by kernel_rfl)
theorem ji:NmL (ae eA) "a":=.of (by kernel_rfl)
theorem kP:NmL (ae eA) "b":=.of (by kernel_rfl)
theorem jp:NmL (ae eA) "often":=.of (by kernel_rfl)
theorem qW:NmG (ae eA) "list":=.of (by kernel_rfl)
theorem Li (T:Txt K mg) (hq:cR (CXe P w)) {f:Addr} {fd:FuncData} (D:Df K mg "_law_done" eA ["tolls","laying","steps"] f fd):FnOk P w K mg base (CXe P w) 1 f fd ["tolls","laying","steps"] (DN T):=by
 refine D.F.okC qD (fun vs H Q E h=>?_) (fun cdv A outer s H vs Q E hr h=>?_)
 . obtain ⟨dt,a,s,d,m,rs,xs,qs,ss,rfl,_⟩:=h
   rfl
 . obtain ⟨dt,a,s,d,m,rs,xs,qs,ss,rfl,ta,g,ha,xl,hs,st,k,kn⟩:=h;have hu:=wY hr;have m24:=g.m24;have ql:qs.length=ss.length:=Paired.length st;refine ⟨_,(ay (bp (i:=3) qD.nd rfl (Or.inl gw.l) (fK oZ qW.g T.list va (ah (pvl 1 Cn) am) (hn:=qW.n) (hdb:=qW.d))) (ay (hZ PassesOwn.never rfl (IK d (pvl 2 CW)) (sg (n:=3) rfl (dE (bJ (i:=4) qD.nd rfl (Or.inl ji.l)) (dE (bJ (i:=5) qD.nd rfl (Or.inl kP.l)) (dE (bJ (i:=6) qD.nd rfl (Or.inl jp.l)) qe)))) (ay (dj (PW.pt (uQ (bW uO (pvl 6 jp) aF (bK _)) (uQ (Co (GX hu (fJ (ah (pvl 4 ji) (ah (pvl 5 kP) am))) (pvl 0 qo))) (yp (bW uO (bI b6 (pvl 3 gw) (pvl 4 ji) (fun _ _=>rfl)) (bd pC (pvl 6 jp) (CJ hu (pvl 0 qo) (fJ (ah (pvl 4 ji) (ah (pvl 5 kP) am))) (fun _ _=>rfl))) (bK _)))))) (aM (bR Kw)) b5) (ay (ph (bd qN (bI b6 (pvl 3 gw) (pvl 4 ji) (fun _ _=>rfl)) (bd pC (pvl 6 jp) (CJ hu (pvl 0 qo) (fJ (ah (pvl 4 ji) (ah (pvl 5 kP) am))) (fun _ _=>rfl)))) (rQ (pvl 3 gw) (pvl 4 ji) lQ)) (aM (ph (bd nP (bI b6 (pvl 3 gw) (pvl 5 kP) (fun _ _=>rfl)) (pvl 6 jp)) (rQ (pvl 3 gw) (pvl 5 kP) lQ)))))) (aM (bR (pvl 3 gw))))),?_⟩;rw [show L2.start ["tolls","laying","steps","held","a","b","often"] [V.ref dt,V.ref a,V.ref s]=[some (V.ref dt),some (V.ref a),some (V.ref s),none,none,none,none] from rfl];refine f8 fun N1 h1=>?_;walk_at "rd";refine ⟨_,.inl (SqL.of ha),fun ln nn=>h1 _ _ (f8 fun N2 h2=>?_)⟩;have s1:=Same.new (.lst (xs.map V.int)) nn;have en:upd H ln (.lst (xs.map V.int)) ln=some (.lst (xs.map V.int)):=ao;generalize upd H ln (.lst (xs.map V.int))=H1 at s1 en ⊢;walk_at "rd";have hsX:∀ {H3:Hp},Same H H3->SqX K d H3 s (qs.map V.ref):=fun {H3} s3=>AtX.sq (K:=K) (show AtX d H3 s (qs.map V.ref) from s3 _ _ hs);refine ⟨⟨_,hsX s1⟩,?_⟩;refine RA (K:=K) (c:=d) (xs:=qs.map V.ref) (fun i σ H3=>Same H H3/\i<=ss.length/\(∀ j t,j<i->ss[j]?=some t->gI m rs (gq rs xs ss j) t=true)/\∃ (v4 v5 v6:Option V),H3 ln=some (.lst ((gq rs xs ss i).map V.int))/\σ=[some (V.ref dt),some (V.ref a),some (V.ref s),some (V.ref ln),v4,v5,v6]) ⟨s1,bo _,fun j t h=>absurd h (iC _),_,_,_,by rw [Pn];exact en,rfl⟩ (fun i σ H3 _ z=>hsX z.1) ?_ ?_
   . rintro i x σ H3 N hN hx ⟨s3,il,bf,v4,v5,v6,e3,rfl⟩;obtain ⟨q,t,rfl,h1',h2',h3'⟩:=(StepsAt.same s3 st).get hx;have il2:i<ss.length:=(aq.mp h2').1;obtain ⟨u,v,n⟩:=t;have sl:=Ei rs xs ss i;have bad:gI m rs (gq rs xs ss i) (u,v,n)=false->∀ H',Same H H'->Q .non H':=fun z=>kn fun ca=>by
       rw [ca i _ h2'] at z;cases z
     walk_at "rd";refine ⟨_,SqT.of h3',rfl,_,_,rfl,_,_,rfl,_,_,rfl,rfl,?_⟩;dsimp only;refine ⟨n,rfl,?_⟩;by_cases c1:n<1
     . rw [ag c1];refine bad ?_ H3 s3;unfold gI mW;rw [bH (show ¬ 1<=(u,v,n).2.2 from by show ¬ 1<=n;omega),Bool.and_false,kj]
     rw [aa c1];have get:∀ {H4:Hp} {q':Addr},Same H H4->H4 q'=none->DGet (upd H4 q' (.tup [V.int u,V.int v])) dt (V.ref q') ((bM rs u v).map V.int):=fun {H4 q'} s4 nq'=>by
       obtain ⟨kvs,hkv,hv2⟩:=(ta.same s4).ex;have hg:=DGet.t (k:=[.inl u,.inl v]) (Same.new (.tup [V.int u,V.int v]) nq' _ _ hkv) ao;rw [hv2] at hg;exact hg
     refine ⟨cu (by simp),fun q1 n1=>⟨_,get s3 n1,?_⟩⟩;have t1:=Same.new (.tup [V.int u,V.int v]) n1;have s4:=s3.trans t1;have e4:=t1 _ _ e3;change Same H (upd H3 q1 (.tup [V.int u,V.int v])) at s4;show ite _ (Q .non (upd H3 q1 (.tup [V.int u,V.int v]))) _;generalize upd H3 q1 (.tup [V.int u,V.int v])=H4 at s4 e4 ⊢;cases ht:bM rs u v with
     | none =>
       rw [ag (by rfl)];exact bad (Q0 g ht) H4 s4
     | some kk =>
       rw [ht] at get;rw [aa (by simp)];have ad:Adj rs u v:=vO.mp (by rw [ht];rfl);obtain ⟨ar,br,nuv⟩:=g.adj ad;obtain ⟨k0,e0,kr⟩:=qX g ad;rw [ht] at e0;cases e0;have gu:=atG (xs:=gq rs xs ss i) ar.1 (by omega);refine ixL e4 gu ⟨cu (by simp),fun q2 n2=>⟨_,get s4 n2,n,rfl,kk,rfl,.inr ⟨by omega,by omega⟩,_,rfl,?_⟩⟩;have s5:=s4.trans (Same.new (.tup [V.int u,V.int v]) n2);have e5:=Same.new (.tup [V.int u,V.int v]) n2 _ _ e4;show ite _ (Q .non (upd H4 q2 (.tup [V.int u,V.int v]))) _;generalize upd H4 q2 (.tup [V.int u,V.int v])=H5 at s5 e5 ⊢;have cdo:=Tx (m:=m) (xs:=gq rs xs ss i) (s:=(u,v,n)) g ht;by_cases c2:(gq rs xs ss i).getD u.toNat 0<n*kk
       . rw [ag c2];refine bad ?_ H5 s5;rw [cdo,bH (show ¬ kk*(u,v,n).2.2<=(gq rs xs ss i).getD (u,v,n).1.toNat 0 from by show ¬ kk*n<=(gq rs xs ss i).getD u.toNat 0;rw [lw];omega),Bool.and_false]
       . rw [aa c2];have yes:gI m rs (gq rs xs ss i) (u,v,n)=true:=by
           rw [cdo,aW (show 0<(u,v,n).2.2 from by show 0<n;omega),aW (show kk*(u,v,n).2.2<=(gq rs xs ss i).getD (u,v,n).1.toNat 0 from by show kk*n<=(gq rs xs ss i).getD u.toNat 0;rw [lw];omega)]
           rfl
         have hst:gq rs xs ss (i+1)=((gq rs xs ss i).set u.toNat ((gq rs xs ss i).getD u.toNat 0 - n*kk)).set v.toNat (((gq rs xs ss i).set u.toNat ((gq rs xs ss i).getD u.toNat 0 - n*kk)).getD v.toNat 0+n):=by
           rw [P0 h2'];unfold bU d9;rw [ht]
           rfl
         refine ixL e5 gu ⟨cu (by simp),fun q3 n3=>⟨_,get s5 n3,n,rfl,kk,rfl,.inr ⟨by omega,by omega⟩,_,rfl,?_⟩⟩;have s6:=s5.trans (Same.new (.tup [V.int u,V.int v]) n3);have e6:=Same.new (.tup [V.int u,V.int v]) n3 _ _ e5;show rSetL _ _ _ (upd H5 q3 (.tup [V.int u,V.int v])) _;generalize upd H5 q3 (.tup [V.int u,V.int v])=H6 at s6 e6 ⊢;refine BM e6 ar.1 (by rw [ai];omega) ?_;rw [<- d8];have yl:((gq rs xs ss i).set u.toNat ((gq rs xs ss i).getD u.toNat 0 - n*kk)).length=xs.length:=(by rw [bN];exact sl);generalize (gq rs xs ss i).set u.toNat ((gq rs xs ss i).getD u.toNat 0 - n*kk)=ys at yl hst ⊢;have ey:upd H6 ln (.lst (ys.map V.int)) ln=some (.lst (ys.map V.int)):=ao;refine ixL ey (atG br.1 (by omega)) ⟨_,rfl,n,rfl,BM ey br.1 (by rw [ai];omega) ?_⟩;rw [tJ,<- d8,<- hst];refine hN _ _ ⟨s6.put nn _,il2,fun j t hj ht'=>?_,_,_,_,ao,rfl⟩;by_cases z:j=i
         . subst z;rw [h2'] at ht';cases ht';exact yes
         . exact bf j t (by omega) ht'
   . rintro σ H3 ⟨s3,il,bf,v4,v5,v6,e3,rfl⟩;rw [ai,ql] at bf e3;refine h2 _ _ ?_;walk_at "rd";exact k (fun j t ht=>bf j t (aq.mp ht).1 ht) ln H3 nn s3 e3
def Da (T:Txt K mg):Sp:=fun vs H Q _=>∃ (d:Addr) (rs:List Road) (m r:Int),vs=[.ref d,.int m,.int r]/\TollsAt H d rs/\Good m rs/\(0<=r/\r<m) /\
 ∃ par dep,Rooted m rs r par dep/\∀ lo qs t H',H lo=none->Same H H'->H' lo=some (.lst (qs.map V.ref))->PrsAt H' r par qs (r::t)->Order m r par t->Q (.ref lo) H'
abbrev dH:Stmt:=top 45
theorem lN:FnScope ["tolls","many","r","order","at","place","above","kid"] ["tolls","many","r"] (ae dH):=FnScope.of (by kernel_rfl)
theorem CK:NmL (ae dH) "tolls":=.of (by kernel_rfl)
theorem DW:NmL (ae dH) "many":=.of (by kernel_rfl)
theorem G9:NmL (ae dH) "r":=.of (by kernel_rfl)
theorem jr:NmL (ae dH) "order":=.of (by kernel_rfl)
theorem mm:NmL (ae dH) "at":=.of (by kernel_rfl)
theorem qu:NmL (ae dH) "place":=.of (by kernel_rfl)
theorem uC:NmL (ae dH) "above":=.of (by kernel_rfl)
theorem oS:NmL (ae dH) "kid":=.of (by kernel_rfl)
theorem sj:NmG (ae dH) "len":=.of (by kernel_rfl)
theorem CQ:NmG (ae dH) "range":=.of (by kernel_rfl)
theorem Md (T:Txt K mg) (hq:cR (CXe P w)) {f:Addr} {fd:FuncData} (D:Df K mg "_law_down" dH ["tolls","many","r"] f fd):FnOk P w K mg base (CXe P w) 1 f fd ["tolls","many","r"] (Da T):=by
 refine D.F.okC lN (fun vs H Q E h=>?_) (fun cdv A outer s H vs Q E hr h=>?_)
 . obtain ⟨d,rs,m,r,rfl,_⟩:=h
   rfl
 . obtain ⟨d,rs,m,r,rfl,ta,g,rr,par,dep,R,k⟩:=h;have hu:=wY hr;have m24:=g.m24;refine ⟨_,(ay (bp (i:=3) lN.nd rfl (Or.inl jr.l) (gZ (ah (fJ (ah (pvl 2 G9) (ah Kw am))) am))) (ay (bp (i:=4) lN.nd rfl (Or.inl mm.l) aF) (ay (zW PassesOwn.never (bW uO (pvl 4 mm) (c8 fE sj.g T.len mt (ah (pvl 3 jr) am) (hn:=sj.n) (hdb:=sj.d)) (bK _)) (ay (ph (bI b6 (pvl 3 jr) (pvl 4 mm) (fun _ _=>rfl)) (sg (n:=2) rfl (dE (bJ (i:=5) lN.nd rfl (Or.inl qu.l)) (dE (bJ (i:=6) lN.nd rfl (Or.inl uC.l)) qe)))) (ay (hZ PassesOwn.never rfl (rF CQ.g T.range (ah (pvl 1 DW) am)) (bJ (i:=7) lN.nd rfl (Or.inl oS.l)) (aM (dj (PW.pt (rS (bW tV (pvl 7 oS) (pvl 6 uC) (bK _)) (tH (Co (Vx hu (fJ (ah (pvl 5 qu) (ah (pvl 7 oS) am))) (pvl 0 CK)))))) (aM (eK (pP PySem.F.plainAttrs_list PySem.F.slot_list_append PySem.F.type_list_append fX (pvl 3 jr) (ah (fJ (ah (pvl 7 oS) (ah (pvl 5 qu) am))) am)))) b5))) (aM (bp (i:=4) lN.nd rfl (Or.inl mm.l) (bd nP (pvl 4 mm) aF)))))) (aM (bR (pvl 3 jr)))))),?_⟩;rw [show L2.start ["tolls","many","r","order","at","place","above","kid"] [V.ref d,V.int m,V.int r]=[some (V.ref d),some (V.int m),some (V.int r),none,none,none,none,none] from rfl];walk_at "rd";refine ⟨cu (by simp),fun q0 n0=>⟨cu (by simp),fun lo nlo=>?_⟩⟩;have s1:=Same.new (.tup [V.int r,V.non]) n0;have nl0:=s1.free nlo;have s2:=s1.trans (Same.new (.lst [V.ref q0]) nlo);have nql:q0≠lo:=fun z=>by rw [<- z,ao] at nlo;cases nlo
   have e2:upd (upd H q0 (.tup [V.int r,V.non])) lo (.lst [V.ref q0]) lo=some (.lst [V.ref q0]):=ao;have f2:upd (upd H q0 (.tup [V.int r,V.non])) lo (.lst [V.ref q0]) q0=some (.tup (vPr r par r)):=by
     rw [aX nql,ao];unfold vPr Pb.front;rw [ag rfl]
   generalize upd (upd H q0 (.tup [V.int r,V.non])) lo (.lst [V.ref q0])=H2 at s2 e2 f2 ⊢;have lim:∀ {t:List Int} {ws:List Int},AInv m rs r par t ws->(r::t).length<=m.toNat:=fun {t ws} J=>by
     have:=fZ (m:=m) (by omega) (aE.mpr ⟨J.nr,J.nd⟩) fun v hv=>by
       rcases az.mp hv with e|e
       . rw [e];exact rr
       . exact J.rng v e
     omega
   refine F9 (fun n σ H4=>∃ (t:List Int) (qs:List Addr) (k:Nat) (v5 v6 v7:Option V),n=m.toNat - k/\k<=(r::t).length/\σ=[some (.ref d),some (.int m),some (.int r),some (.ref lo),some (.int (k:Nat)),v5,v6,v7]/\Same H H4/\H4 lo=some (.lst (qs.map V.ref))/\PrsAt H4 r par qs (r::t)/\Bfs m rs r par t k) m.toNat ⟨[],[q0],0,_,_,_,rfl,bo _,rfl,s2,e2,.cons f2 .nil,Bfs.start⟩ ?_;rintro n σ H4 NW hN hN2 ⟨t,qs,kk,v5,v6,v7,rfl,kle,rfl,s4,ho,pa,S⟩;have tl:=lim S.J;have ql:qs.length=(r::t).length:=Paired.length pa;walk_at "rd";refine ⟨_,.inl (SqL.of ho),?_⟩;rw [ai,ql];by_cases c:kk=(r::t).length
   . rw [aa (by omega)];exact k lo qs t H4 nl0 s4 ho pa (S.done R (by omega))
   . rw [ag (by omega)];have klt:kk<(r::t).length:=(by omega);obtain ⟨p,hp⟩:∃ p,(r::t)[kk]?=some p:=⟨_,ax klt⟩;have S':=S.step g R rr.1 rr.2 hp;have tl':=lim S'.J;have pr:0<=p/\p<m:=by
       rcases az.mp (a8 hp) with e|e
       . rw [e];exact rr
       . exact S.J.rng p e
     refine ⟨NW,fun σ' H' z=>?_,?_⟩
     . obtain ⟨m',lt,t',qs',k',a5,a6,a7,e1,e2,e3⟩:=hN2 _ _ z;exact ⟨m',lt,t',qs',k',e1,e2,a5,a6,a7,e3⟩
     obtain ⟨qx,hqx⟩:∃ qx,qs[kk]?=some qx:=⟨_,ax (by omega)⟩;obtain ⟨qp,pv,e1,e2,e3,e4⟩:=pa.get (i:=kk) (x:=.ref qx) (by rw [aP,hqx];rfl);injection e1 with e1
     subst e1;rw [hp] at e3;cases e3;refine ixL ho (MP (by rw [aP,hqx];rfl)) ⟨qx,rfl,_,SqT.of e4,rfl,_,_,rfl,_,_,rfl,rfl,by omega,by omega,?_⟩;have mk:∀ v,v∈bA m rs (Pb.front r par p) p->(0<=v/\v<m)/\v≠r/\par v=p:=fun v=>(dQ g R pr.1 pr.2).mp;have inK:∀ i:Nat,i<m.toNat->(bM rs p (i:Int)).isSome=true->V.int (i:Int)≠Pb.front r par p->(i:Int)∈bA m rs (Pb.front r par p) p:=fun i hi h1 h2=>by
       rw [<- FC];unfold kU;exact bG.mpr ⟨bG.mpr ⟨iM.mpr ⟨by omega,by omega⟩,h1⟩,aW h2⟩
     have ktl:∀ i:Nat,i<=m.toNat->(kU rs (Pb.front r par p) p i).length<=24:=fun i hi=>by
       unfold kU;refine bq (cH _ _) (bq (cH _ _) ?_);rw [dq];omega
     have fvs:∀ i:Int,xb (.int i) (Pb.front r par p)=true:=fun i=>by
       unfold Pb.front;by_cases z:p=r
       . rw [ag z];rfl
       . rw [aa z];rfl
     rw [<- FC] at S' tl';refine uP (fun i σ H5=>Same H H5/\∃ (qs:List Addr) (v7:Option V),H5 lo=some (.lst (qs.map V.ref))/\PrsAt H5 r par qs (r::(t++kU rs (Pb.front r par p) p i))/\σ=[some (.ref d),some (.int m),some (.int r),some (.ref lo),some (.int (kk:Nat)),some (.int p),some (Pb.front r par p),v7]) ⟨s4,qs,_,ho,by rw [show kU rs (Pb.front r par p) p 0=[] from rfl,bC];exact pa,rfl⟩ ?_ ?_
     . rintro i σ H5 N hN hi ⟨s5,qs,v7,ho,pa,rfl⟩;rw [gD];have kl:=ktl i (by omega);have ql:qs.length=(r::(t++kU rs (Pb.front r par p) p i)).length:=Paired.length pa;rw [aL,aH] at ql;rw [aL] at tl;walk_at "rd";refine ⟨fvs _,?_⟩;by_cases c1:V.int (i:Int)=Pb.front r par p
       . rw [aa (fun z=>z c1)];exact hN _ _ ⟨s5,qs,_,ho,by rw [Fa (fun _ z=>z c1)];exact pa,rfl⟩
       . rw [ag c1];refine ⟨cu (by simp),fun q nq=>?_⟩;have s6:=Same.new (.tup [V.int p,V.int (i:Int)]) nq;obtain ⟨kvs,hkv,hv⟩:=(ta.same s5).ex;have hg:=DGet.t (k:=[.inl p,.inl (i:Int)]) (s6 _ _ hkv) ao;rw [hv] at hg;refine ⟨_,hg,?_⟩;by_cases c2:(bM rs p (i:Int)).isSome=true
         . rw [ag (by rw [fI];exact c2)];obtain ⟨_,kr,kp⟩:=mk _ (inK i hi c2 c1);refine ⟨tyL (s6 _ _ ho),cu (by simp),fun q' nq'=>?_⟩;have s7:=s6.trans (Same.new (.tup [V.int (i:Int),V.int p]) nq');have ho7:=s7 _ _ ho;have nqo:q'≠lo:=fun z=>by rw [z,s6 _ _ ho] at nq';cases nq'
           refine tD ho7 (eT (by rw [ai];omega)) (hN _ _ ⟨(s5.trans s7).put nl0 _,qs++[q'],_,by rw [ao,aA];rfl,?_,rfl⟩);rw [NU c2 c1,<- bX,<- lD];refine PrsAt.snoc ?_ (Paired.imp' (fun a b h=>by rw [aX (oW (s7 _ _ h) ho7 (by intro z;cases z))];exact s7 _ _ h) pa);rw [aX nqo,ao];unfold vPr Pb.front;rw [aa kr,kp]
         . rw [aa (by rw [fI];exact c2)];exact hN _ _ ⟨s5.trans s6,qs,_,s6 _ _ ho,by rw [Fa (fun z=>absurd z c2)];exact PrsAt.same s6 pa,rfl⟩
     . rintro σ H5 ⟨s5,qs,v7,ho,pa,rfl⟩;walk_at "rd";exact hN (m.toNat - (kk+1)) _ _ (by omega) ⟨_,qs,kk+1,_,_,_,rfl,by rw [aL,aH];rw [aL] at klt;omega,rfl,s5,ho,pa,S'⟩
def rp (T:Txt K mg):Sp:=fun vs H Q _=>∃ (dt a b:Addr) (c d:Bool) (rs:List Road) (xs ys:List Int) (m r:Int),vs=[.ref dt,.int m,.ref a,.ref b,.int r]/\TollsAt H dt rs/\Good m rs/\SqX K c H a (xs.map V.int)/\(xs.length:Int)=m/\SqX K d H b (ys.map V.int)/\(ys.length:Int)=m/\(0<=r/\r<m) /\
 ∃ par dep,Rooted m rs r par dep/\∀ l H',H l=none->Same H H'->H' l=some (.lst ((oE m rs r par dep (fun v=>(cx m xs ys).getD v.toNat 0) (hnd rs par)).map V.int))->Q (.ref l) H'
abbrev bF:Stmt:=top 46
theorem nH:FnScope ["tolls","many","laying","wish","r","found","place","above"] ["tolls","many","laying","wish","r"] (ae bF):=FnScope.of (by kernel_rfl)
theorem lM:NmL (ae bF) "tolls":=.of (by kernel_rfl)
theorem rD:NmL (ae bF) "many":=.of (by kernel_rfl)
theorem K8:NmC (ae bF) "laying":=.of (by kernel_rfl)
theorem M9:NmC (ae bF) "wish":=.of (by kernel_rfl)
theorem BZ:NmL (ae bF) "r":=.of (by kernel_rfl)
theorem cX:NmL (ae bF) "found":=.of (by kernel_rfl)
theorem eY:NmL (ae bF) "place":=.of (by kernel_rfl)
theorem cW:NmL (ae bF) "above":=.of (by kernel_rfl)
theorem xh:NmG (ae bF) "range":=.of (by kernel_rfl)
theorem uS:NmG (ae bF) "reversed":=.of (by kernel_rfl)
theorem oY:NmG (ae bF) "_law_down":=.of (by kernel_rfl)
theorem Ee (T:Txt K mg) (hq:cR (CXe P w)) {f:Addr} {fd:FuncData} (D:Df K mg "_law_standings" bF ["tolls","many","laying","wish","r"] f fd) {nj:Addr} {Dw:FuncData} (qc:Df K mg "_law_down" dH ["tolls","many","r"] nj Dw) (yZ:FnOk P w K mg base (CXe P w) 1 nj Dw ["tolls","many","r"] (Da T)):FnOk P w K mg base (CXe P w) 2 f fd ["tolls","many","laying","wish","r"] (rp T):=by
 refine D.F.okC nH (fun vs H Q E h=>?_) (fun cdv A outer s H vs Q E hr h=>?_)
 . obtain ⟨dt,a,b,c,d,rs,xs,ys,m,r,rfl,_⟩:=h
   rfl
 . obtain ⟨dt,a,b,c,d,rs,xs,ys,m,r,rfl,ta,g,ha,xl,hb,yl,rr,par,dep,R,k⟩:=h;have hu:=wY hr;have m1:=g.m1;have m24:=g.m24;refine ⟨_,(ay (Aa (i:=5) nH.nd rfl cX.l rfl (tG (Nc:=["place","laying","wish"]) 1 [2,3] (by decide +kernel) rfl (by decide +kernel) rfl (by show ∀ (y:Str × NameKind),y∈_->y.2=NameKind.free->(ae bF).names.lookup y.1=some NameKind.cell;decide +kernel) rfl (fun _ h=>nC h) (fun i hi=>match i,hi with|0,_=>⟨"laying",2,rfl,rfl,rfl,by decide +kernel⟩|1,_=>⟨"wish",3,rfl,rfl,rfl,by decide +kernel⟩|i+2,hi=>absurd hi (by show ¬ i+2<2;omega))) (rF xh.g T.range (ah (pvl 1 rD) am)) (fun _ _ _ _=>(bJ (i:=0) (show (["place","laying","wish"]:List Str).Nodup from by decide +kernel) rfl (Or.inl rfl))) (fun _ _ _ _=>oq) (fun _ _ _ _=>(bd qN (bI (MN c K rfl) (pv 1) (pv 0) (fun _ _=>rfl)) (bI (MN d K rfl) (pv 2) (pv 0) (fun _ _=>rfl))))) (ay (hZ PassesOwn.never rfl (EW uS.g T.reversed (aZ yZ (hr.mono (by decide)) oY.g qc.m qc.F.kp qc.b .nil (cI hq) (ah (pvl 0 lM) (ah (pvl 1 rD) (ah (pvl 4 BZ) am))) (hdb:=oY.d))) (sg (n:=2) rfl (dE (bJ (i:=6) nH.nd rfl (Or.inl eY.l)) (dE (bJ (i:=7) nH.nd rfl (Or.inl cW.l)) qe))) (aM (dj (PW.pt (rS (Co (FO (pvl 7 cW))) (tH (bW CC (bI b6 (pvl 5 cX) (pvl 6 eY) (fun _ _=>rfl)) aF (bK _))))) (aM (ph (bd nP (bI b6 (pvl 5 cX) (pvl 7 cW) (fun _ _=>rfl)) (bd gA (bI b6 (pvl 5 cX) (pvl 6 eY) (fun _ _=>rfl)) (CJ hu (pvl 0 lM) (fJ (ah (pvl 6 eY) (ah (pvl 7 cW) am))) (fun _ _=>rfl)))) (rQ (pvl 5 cX) (pvl 7 cW) lQ))) (aM (dj (Co (FO (pvl 7 cW))) (aM (ph (bd nP (bI b6 (pvl 5 cX) (pvl 7 cW) (fun _ _=>rfl)) (bd pC (bI b6 (pvl 5 cX) (pvl 6 eY) (fun _ _=>rfl)) (CJ hu (pvl 0 lM) (fJ (ah (pvl 7 cW) (ah (pvl 6 eY) am))) (fun _ _=>rfl)))) (rQ (pvl 5 cX) (pvl 7 cW) lQ))) b5))))) (aM (bR (pvl 5 cX))))),?_⟩;rw [show L2.start ["tolls","many","laying","wish","r","found","place","above"] [V.ref dt,V.int m,V.ref a,V.ref b,V.int r]=[some (V.ref dt),some (V.int m),some (V.ref a),some (V.ref b),some (V.int r),none,none,none] from rfl];walk_at "rd";refine ⟨by omega,by omega,fun lo no=>?_⟩;refine sH (fun i zs σ H3=>Same H H3/\H3 lo=some (.lst zs)/\zs=((List.range i).map fun i=>xs.getD i 0 - ys.getD i 0).map V.int/\∃ v,σ=[v,some (V.ref a),some (V.ref b)]) ⟨Same.new _ no,ao,rfl,_,rfl⟩ ?_ ?_
   . rintro i zs σ H3 N hN hi ⟨s3,e3',rfl,v,rfl⟩;rw [gD];have i0:(0:Int)<=(i:Int):=(by omega);have ga:=atG (xs:=xs) i0 (by omega);have gb:=atG (xs:=ys) i0 (by omega);rw [dR] at ga gb;walk_at "rd";refine ixX (Same.sqX s3 ha) ga (ixX (Same.sqX s3 hb) gb ⟨_,rfl,_,rfl,e3',eT (by simp;omega),hN _ _ _ ⟨s3.put no _,ao,?_,_,rfl⟩⟩);rw [iG,aA,aA]
     rfl
   . rintro zs σ H3 ⟨s3,e3',rfl,v,rfl⟩;have ol:=G3 (m:=m) (by omega) xs ys;change H3 lo=some (.lst ((cx m xs ys).map V.int)) at e3';refine ⟨dt,rs,m,r,rfl,ta.same s3,g,rr,par,dep,R,fun lq qs t H4 nq s4 eq pa O=>?_⟩;have nqo:lq≠lo:=fun z=>by rw [z,e3'] at nq;cases nq
     have s34:=s3.trans s4;have ql:qs.length=(r::t).length:=Paired.length pa;refine ⟨lq,rfl,_,SqL.of eq,?_⟩;refine Ec (K:=K) (xs:=qs.map V.ref) (fun i σ H5=>Same H H5/\H5 lq=some (.lst (qs.map V.ref))/\PrsAt H5 r par qs (r::t)/\∃ (cs:List Int) (v6 v7:Option V),H5 lo=some (.lst (cs.map V.int))/\Sofar m rs r par dep (fun v=>(cx m xs ys).getD v.toNat 0) (hnd rs par) (t.drop (t.length - i)) cs/\σ=[some (V.ref dt),some (V.int m),some (V.ref a),some (V.ref b),some (V.int r),some (V.ref lo),v6,v7]) ⟨s34,eq,pa,cx m xs ys,_,_,s4 _ _ e3',by rw [Nat.sub_zero,lH];exact Sofar.nil ol,rfl⟩ (fun i σ H5 _ z=>SqL.of z.2.1) ?_ ?_
     . rintro i x σ H5 N hN hx ⟨s5,q5,pa5,cs,v6,v7,c5,so,rfl⟩;have il:=(aq.mp hx).1;rw [be,ai,ql,aL] at il;rw [da (by rw [ai,ql,aL];omega),ai,ql] at hx;obtain ⟨q,v,rfl,hq,hv,e5⟩:=pa5.get hx;have hv':(r::t).reverse[i]?=some v:=(by rw [da (by rw [aL];omega)];exact hv);rw [j9] at hv';have cl:=so.len;walk_at "rd";refine ⟨_,SqT.of e5,rfl,_,_,rfl,_,_,rfl,rfl,?_⟩;walk_at "rd";by_cases ci:i<t.length
       . rw [dP (by rw [be];exact ci)] at hv';obtain ⟨⟨vr,vn⟩,ev,so'⟩:=O.turn g R so hv';have u:=R.up v vr.1 vr.2 vn;obtain ⟨kk,hk,k0,k1⟩:=CI g R vr.1 vr.2 vn;obtain ⟨kd,hd,d0,d1⟩:=CF g R vr.1 vr.2 vn;have fv:Pb.front r par v=V.int (par v):=(by unfold Pb.front;rw [aa vn]);rw [fv];have nn:¬ V.int (par v)=V.non:=(by intro z;cases z);have gv:=atG (xs:=cs) vr.1 (by omega);have gu:=atG (xs:=cs) u.1.1 (by omega);have get:∀ (x y kx:Int) (q':Addr),bM rs x y=some kx->H5 q'=none->DGet (upd H5 q' (.tup [V.int x,V.int y])) dt (V.ref q') (some (V.int kx)):=fun x y kx q' hx nq'=>by
           obtain ⟨kvs,hkv,hv2⟩:=(ta.same s5).ex;have hg:=DGet.t (k:=[.inl x,.inl y]) (Same.new (.tup [V.int x,V.int y]) nq' _ _ hkv) ao;rw [hv2,hx] at hg;exact hg
         have fin:∀ (w:Int) (q':Addr) (o:List V),H5 q'=none->w=cs.getD (par v).toNat 0+hnd rs par v (cs.getD v.toNat 0)->rSetL (V.ref lo) (V.int (par v)) (V.int w) (upd H5 q' (.tup o)) fun H3=>N [some (V.ref dt),some (V.int m),some (V.ref a),some (V.ref b),some (V.int r),some (V.ref lo),some (V.int v),some (V.int (par v))] H3:=fun w q' o nq' hw=>by
           have s6:=Same.new (.tup o) nq';refine BM (s6 _ _ c5) u.1.1 (by rw [ai];omega) (hN _ _ ⟨(s5.trans s6).put no _,?_,?_,zT par (hnd rs par) cs v,_,_,?_,so',rfl⟩)
           . rw [aX nqo];exact s6 _ _ q5
           . exact Paired.imp' (fun a b h=>by rw [aX (oW (s6 _ _ h) (s6 _ _ c5) (by intro z;cases z))];exact s6 _ _ h) pa5
           . rw [ao,<- d8,hw]
             rfl
         rw [ag nn];refine ixL c5 gv ⟨_,rfl,?_⟩;by_cases cp:0<=cs.getD v.toNat 0
         . rw [ag cp];refine ixL c5 gu (ixL c5 gv ⟨cu (by simp),fun q' nq'=>⟨_,get v (par v) kk q' hk nq',_,rfl,_,rfl,⟨by omega,by omega⟩,_,rfl,fin _ q' _ nq' ?_⟩⟩);unfold hnd;rw [ag cp,hk]
           rfl
         . rw [aa cp,ag nn];refine ixL c5 gu (ixL c5 gv ⟨cu (by simp),fun q' nq'=>⟨_,get (par v) v kd q' hd nq',_,rfl,_,rfl,.inr ⟨by omega,by omega⟩,_,rfl,fin _ q' _ nq' ?_⟩⟩);unfold hnd;rw [aa cp,hd]
           rfl
       . have ei:i=t.reverse.length:=(by rw [be];omega);rw [ei,dD (aI _),ke] at hv';cases hv';have fv:Pb.front r par r=V.non:=(by unfold Pb.front;rw [ag rfl]);rw [fv];rw [aa (fun z=>z rfl),aa (fun z=>z rfl)];refine hN _ _ ⟨s5,q5,pa5,cs,_,_,c5,?_,rfl⟩;rw [be] at ei;rw [show t.length - (i+1)=t.length - i by omega];exact so
     . rintro σ H5 ⟨s5,q5,pa5,cs,v6,v7,c5,so,rfl⟩;rw [ai,ql,aL,show t.length - (t.length+1)=0 by omega,mY] at so;rw [O.done g R so] at c5;walk_at "rd";exact k lo H5 no s5 c5
def Db (T:Txt K mg):Sp:=fun vs H Q _=>∃ (a dt lx ly:Addr) (ns:List Int) (m:Int) (rs:List Road) (xs ys:List Int),vs=[.ref a,.ref dt,.int m,.ref lx,.ref ly]/\SqL K H a (ns.map V.int)/\TollsAt H dt rs/\Good m rs/\H lx=some (.lst (xs.map V.int))/\(xs.length:Int)=m/\(∀ x∈xs,0<=x)/\H ly=some (.lst (ys.map V.int))/\(ys.length:Int)=m /\
 ∀ (zs:List Int) (H':Hp),(zs.length:Int)=m->(∀ z∈zs,0<=z)->(∀ q o,q≠lx->H q=some o->H' q=some o)->H' lx=some (.lst (zs.map V.int))->Q .non H'
abbrev dI:Stmt:=top 51
theorem tU:FnScope ["script","tolls","many","laying","wish","head","r","due"] ["script","tolls","many","laying","wish"] (ae dI):=FnScope.of (by kernel_rfl)
theorem Be:NmL (ae dI) "script":=.of (by kernel_rfl)
theorem CY:NmL (ae dI) "tolls":=.of (by kernel_rfl)
theorem vt:NmL (ae dI) "many":=.of (by kernel_rfl)
theorem fF:NmL (ae dI) "laying":=.of (by kernel_rfl)
theorem D0:NmL (ae dI) "wish":=.of (by kernel_rfl)
theorem m5:NmL (ae dI) "head":=.of (by kernel_rfl)
theorem gm:NmL (ae dI) "r":=.of (by kernel_rfl)
theorem kT:NmL (ae dI) "due":=.of (by kernel_rfl)
theorem rJ:NmG (ae dI) "_law_drawn":=.of (by kernel_rfl)
theorem oV:NmG (ae dI) "_law_standings":=.of (by kernel_rfl)
theorem Mv (T:Txt K mg) (hq:cR (CXe P w)) {f:Addr} {fd:FuncData} (D:Df K mg "_law_edge" dI ["script","tolls","many","laying","wish"] f fd) {cC:Addr} {c6:FuncData} (bj:Df K mg "_law_drawn" cU ["script","k"] cC c6) (cQ:FnOk P w K mg base (CXe P w) 1 cC c6 ["script","k"] (jP T)) {eE:Addr} {j8:FuncData} (d4:Df K mg "_law_standings" bF ["tolls","many","laying","wish","r"] eE j8) (ja:FnOk P w K mg base (CXe P w) 2 eE j8 ["tolls","many","laying","wish","r"] (rp T)):FnOk P w K mg base (CXe P w) 3 f fd ["script","tolls","many","laying","wish"] (Db T):=by
 refine D.F.okC tU (fun vs H Q E h=>?_) (fun cdv A outer s H vs Q E hr h=>?_)
 . obtain ⟨a,dt,lx,ly,ns,m,rs,xs,ys,rfl,_⟩:=h
   rfl
 . obtain ⟨a,dt,lx,ly,ns,m,rs,xs,ys,rfl,ha,ta,g,hx,xl,x0,hy,yl,k⟩:=h;have m1:=g.m1;have m24:=g.m24;have mp:0<m:=by omega
   have p60:(0:Int)<10^Int.toNat 60:=Int.pow_pos (by decide);refine ⟨_,(ay (bp (i:=5) tU.nd rfl (Or.inl m5.l) (bd gA (aZ cQ (hr.mono (by decide)) rJ.g bj.m bj.F.kp bj.b .nil (cI hq) (ah (pvl 0 Be) (ah aF am)) (hdb:=rJ.d)) aF)) (ay (bp (i:=6) tU.nd rfl (Or.inl gm.l) (bd dY (bd gA (pvl 5 m5) aF) (pvl 2 vt))) (ay (bp (i:=7) tU.nd rfl (Or.inl kT.l) (bI b6 (aZ ja (hr.mono (by decide)) oV.g d4.m d4.F.kp d4.b .nil (cI hq) (ah (pvl 1 CY) (ah (pvl 2 vt) (ah (pvl 3 fF) (ah (pvl 4 D0) (ah (pvl 6 gm) am))))) (hdb:=oV.d)) (pvl 6 gm) (fun _ _=>rfl))) (ay (dj (PW.pt (rS (bW Fv (bd dY (pvl 5 m5) aF) aF (bK _)) (rS (bW uO (pvl 7 kT) aF (bK _)) (tH (bW uO (bd qN (bI b6 (pvl 3 fF) (pvl 6 gm) (fun _ _=>rfl)) (pvl 7 kT)) (bd rN aF aF) (bK _)))))) (aM (ph (bd qN (bI b6 (pvl 3 fF) (pvl 6 gm) (fun _ _=>rfl)) (pvl 7 kT)) (rQ (pvl 3 fF) (pvl 6 gm) lQ))) b5) (aM (dj (PW.pt (rS (bW jB (bd dY (pvl 5 m5) aF) aF (bK _)) (rS (bW tV (pvl 7 kT) aF (bK _)) (tH (bW Fv (bI b6 (pvl 3 fF) (pvl 6 gm) (fun _ _=>rfl)) aF (bK _)))))) (aM (ph (bd qN (bI b6 (pvl 3 fF) (pvl 6 gm) (fun _ _=>rfl)) aF) (rQ (pvl 3 fF) (pvl 6 gm) lQ))) b5)))))),?_⟩;rw [show L2.start ["script","tolls","many","laying","wish","head","r","due"] [V.ref a,V.ref dt,V.int m,V.ref lx,V.ref ly]=[some (V.ref a),some (V.ref dt),some (V.int m),some (V.ref lx),some (V.ref ly),none,none,none] from rfl];refine f8 fun N1 h1=>?_;walk_at "rd";refine ⟨a,ns,0,rfl,ha,by decide,by decide,fun v0 v00=>⟨_,rfl,⟨by decide,by decide⟩,h1 _ _ (f8 fun N2 h2=>?_)⟩⟩;generalize v0 / 4800=hd;walk_at "rd";refine ⟨⟨by decide,by decide⟩,mp,h2 _ _ (f8 fun N3 h3=>?_)⟩;have r0:=bE (hd / 3) (kX mp);have r1:=bO (hd / 3) mp;generalize hd / 3 % m=r at r0 r1 ⊢;walk_at "rd";obtain ⟨par,dep,R⟩:=BQ g r0 r1;refine ⟨dt,lx,ly,true,true,rs,xs,ys,m,r,rfl,ta,g,SqL.of hx,xl,SqL.of hy,yl,⟨r0,r1⟩,par,dep,R,fun l H1 nl s1 el=>?_⟩;have gl:=atG (xs:=oE m rs r par dep (fun v=>(cx m xs ys).getD v.toNat 0) (hnd rs par)) r0 (by unfold oE;rw [ai,dq];omega);generalize (oE m rs r par dep (fun v=>(cx m xs ys).getD v.toNat 0) (hnd rs par)).getD r.toNat 0=du at gl;refine ixL el gl (h3 _ _ (f8 fun N4 h4=>?_));have jT:∀ (zs:List Int) (H2:Hp),(zs.length:Int)=m->(∀ z∈zs,0<=z)->(∀ q o,q≠lx->H q=some o->H2 q=some o)->H2 lx=some (.lst (zs.map V.int))->N4 [some (V.ref a),some (V.ref dt),some (V.int m),some (V.ref lx),some (V.ref ly),some (V.int hd),some (V.int r),some (V.int du)] H2:=by
     intro zs H2 zl z0 oth hz;refine h4 _ _ ?_;have gz:=atG (xs:=zs) r0 (by omega);have zg:=F0 z0 r.toNat;walk_at "rd";refine ⟨by decide,?_⟩;have stay:Q .non H2:=k zs H2 zl z0 oth hz;by_cases c1:hd % 3=2
     . rw [ag c1];by_cases c2:du=0
       . rw [aa (fun z=>z c2)];exact stay
       . rw [ag c2];refine ixL hz gz ⟨_,rfl,?_⟩;by_cases c3:0<zs.getD r.toNat 0
         . rw [ag c3];refine ixL hz gz ⟨_,rfl,BM hz r0 (by rw [ai];omega) ?_⟩;rw [<- d8];exact k _ _ (by rw [bN];exact zl) (yU z0 (by omega)) (fun q o n e=>by rw [aX n];exact oth q o n e) ao
         . rw [aa c3];exact stay
     . rw [aa c1];exact stay
   have st0:=jT xs H1 xl x0 (fun q o _ e=>s1 q o e) (s1 _ _ hx);have gx:=atG (xs:=xs) r0 (by omega);have xg:=F0 x0 r.toNat;walk_at "rd";refine ⟨by decide,?_⟩;by_cases c1:0<hd % 3
   . rw [ag c1];by_cases c2:du<0
     . rw [ag c2];refine ixL (s1 _ _ hx) gx ⟨_,rfl,⟨by decide,by decide,by decide⟩,?_⟩;by_cases c3:xs.getD r.toNat 0 - du<10^Int.toNat 60
       . rw [ag c3];refine ixL (s1 _ _ hx) gx ⟨_,rfl,BM (s1 _ _ hx) r0 (by rw [ai];omega) ?_⟩;rw [<- d8];exact jT _ _ (by rw [bN];exact xl) (yU x0 (by omega)) (fun q o n e=>by rw [aX n];exact s1 q o e) ao
       . rw [aa c3];exact st0
     . rw [aa c2];exact st0
   . rw [aa c1];exact st0
def Aw (T:Txt K mg):Sp:=fun vs H Q _=>∃ (a:Addr) (ns:List Int) (m b:Int),vs=[.ref a,.int m,.int b]/\SqL K H a (ns.map V.int)/\ns.length<=63/\1<=m/\m<=24/\1<=b/\∀ (l:Addr) (xs:List Int) (H':Hp),H l=none->Same H H'->H' l=some (.lst (xs.map V.int))->(xs.length:Int)=m->(∀ x∈xs,0<=x)->Q (.ref l) H'
abbrev c9:Stmt:=top 49
theorem qS:FnScope ["script","many","bound","laying","k","place"] ["script","many","bound"] (ae c9):=FnScope.of (by kernel_rfl)
theorem nD:NmL (ae c9) "script":=.of (by kernel_rfl)
theorem ld:NmL (ae c9) "many":=.of (by kernel_rfl)
theorem A2:NmL (ae c9) "bound":=.of (by kernel_rfl)
theorem jF:NmL (ae c9) "laying":=.of (by kernel_rfl)
theorem oQ:NmL (ae c9) "k":=.of (by kernel_rfl)
theorem ou:NmL (ae c9) "place":=.of (by kernel_rfl)
theorem A0:NmG (ae c9) "range":=.of (by kernel_rfl)
theorem qj:NmG (ae c9) "len":=.of (by kernel_rfl)
theorem hE:NmG (ae c9) "_law_drawn":=.of (by kernel_rfl)
theorem Hh (T:Txt K mg) (hq:cR (CXe P w)) {f:Addr} {fd:FuncData} (D:Df K mg "_law_laying" c9 ["script","many","bound"] f fd) {cC:Addr} {c6:FuncData} (bj:Df K mg "_law_drawn" cU ["script","k"] cC c6) (cQ:FnOk P w K mg base (CXe P w) 1 cC c6 ["script","k"] (jP T)):FnOk P w K mg base (CXe P w) 2 f fd ["script","many","bound"] (Aw T):=by
 refine D.F.okC qS (fun vs H Q E h=>?_) (fun cdv A outer s H vs Q E hr h=>?_)
 . obtain ⟨a,ns,m,b,rfl,_⟩:=h
   rfl
 . obtain ⟨a,ns,m,b,rfl,ha,hn,m0,m1,b0,k⟩:=h;refine ⟨_,(ay (bp (i:=3) qS.nd rfl (Or.inl jF.l) (bd JP (gZ (ah aF am)) (pvl 1 ld))) (ay (hZ PassesOwn.never rfl (BI A0.g T.range (ah (pvl 1 ld) (ah (c8 fE qj.g T.len mt (ah (pvl 0 nD) am) (hn:=qj.n) (hdb:=qj.d)) am))) (bJ (i:=4) qS.nd rfl (Or.inl oQ.l)) (aM (dj (bW jB (bd dY (pvl 4 oQ) aF) aF (bK _)) (ay (bp (i:=5) qS.nd rfl (Or.inl ou.l) (bd dY (aZ cQ (hr.mono (by decide)) hE.g bj.m bj.F.kp bj.b .nil (cI hq) (ah (pvl 0 nD) (ah (pvl 4 oQ) am)) (hdb:=hE.d)) (pvl 1 ld))) (aM (ph (bd dY (bd nP (bd pC (bI b6 (pvl 3 jF) (pvl 5 ou) (fun _ _=>rfl)) aF) (bd gA (aZ cQ (hr.mono (by decide)) hE.g bj.m bj.F.kp bj.b .nil (cI hq) (ah (pvl 0 nD) (ah (pvl 4 oQ) am)) (hdb:=hE.d)) (pvl 1 ld))) (pvl 2 A2)) (rQ (pvl 3 jF) (pvl 5 ou) lQ)))) b5))) (aM (bR (pvl 3 jF))))),?_⟩;rw [show L2.start ["script","many","bound","laying","k","place"] [V.ref a,V.int m,V.int b]=[some (V.ref a),some (V.int m),some (V.int b),none,none,none] from rfl];walk_at "rd";refine ⟨cu (by simp),fun l0 n0=>?_⟩;refine ⟨l0,m,_,rfl,rfl,ao,by omega,by omega,cu (by simp;omega),fun l n1=>?_⟩;rw [TZ];have s0:Same H (upd H l0 (.lst [.int 0])):=Same.new _ n0;have s1:=s0.trans (Same.new (.lst (List.replicate m.toNat (V.int 0))) n1);have nl:=s0.free n1;refine ⟨_,.inl (Same.seq s1 ha),m,_,⟨rfl,rfl⟩,⟨by omega,by omega,by omega,by rw [ai];omega⟩,?_⟩;rw [ai];have e1:upd (upd H l0 (.lst [.int 0])) l (.lst (List.replicate m.toNat (V.int 0))) l=some (.lst ((List.replicate m.toNat (0:Int)).map V.int)):=by rw [ao,List.map_replicate]
   generalize upd (upd H l0 (.lst [.int 0])) l (.lst (List.replicate m.toNat (V.int 0)))=H1 at s1 e1 ⊢;refine uP (fun i σ H2=>Same H H2/\∃ (xs:List Int) (v4 v5:Option V),H2 l=some (.lst (xs.map V.int))/\(xs.length:Int)=m/\(∀ x∈xs,0<=x)/\σ=[some (.ref a),some (.int m),some (.int b),some (.ref l),v4,v5]) ⟨s1,_,_,_,e1,by rw [c7];omega,fun x hx=>by rw [(List.mem_replicate.mp hx).2];decide,rfl⟩ ?_ ?_
   . rintro i σ H2 N hN hi ⟨s2,xs,v4,v5,e2,xl,x0,rfl⟩;have i0:0<=m+(i:Int):=(by omega);have i1:m+(i:Int)<=1000:=(by omega);generalize m+(i:Int)=j at i0 i1 ⊢;have sa:=Same.seq s2 ha;walk_at "rd";refine ⟨by decide,?_⟩;by_cases z:j % 2=0
     . rw [ag z];refine ⟨a,ns,j,rfl,sa,i0,i1,fun c c0=>⟨c,rfl,by omega,?_⟩⟩;have h1:=bE c (show m≠0 by omega);have h2:=bO c (show 0<m by omega);generalize c % m=p at h1 h2 ⊢;refine ixL e2 (atG h1 (by omega)) ⟨_,rfl,.inr ⟨by decide,by decide⟩,a,ns,j,rfl,sa,i0,i1,fun c' c0'=>⟨c',rfl,⟨by omega,by omega⟩,by omega,BM e2 h1 (by rw [ai];omega) (hN _ _ ⟨s2.put nl _,xs.set p.toNat _,_,_,by rw [ao,d8],by rw [bN];exact xl,yU x0 (bE _ (by omega)),rfl⟩)⟩⟩
     . rw [aa z];exact hN _ _ ⟨s2,xs,_,_,e2,xl,x0,rfl⟩
   . rintro σ H2 ⟨s2,xs,v4,v5,e2,xl,x0,rfl⟩;exact ⟨_,rfl,k l xs H2 nl s2 e2 xl x0⟩
def vE (T:Txt K mg):Sp:=fun vs H Q _=>∃ i:Int,vs=[.int i]/\Q (.bl true) H
abbrev eV:Stmt:=top 47
theorem JQ:FnScope ["number"] ["number"] (ae eV):=FnScope.of (by kernel_rfl)
theorem sN:NmL (ae eV) "number":=.of (by kernel_rfl)
theorem eO:NmG (ae eV) "isinstance":=.of (by kernel_rfl)
theorem qY:NmG (ae eV) "int":=.of (by kernel_rfl)
theorem qt:NmG (ae eV) "bool":=.of (by kernel_rfl)
theorem KR (T:Txt K mg) (hq:cR (CXe P w)) {f:Addr} {fd:FuncData} (D:Df K mg "_law_whole" eV ["number"] f fd):FnOk P w K mg base (CXe P w) 1 f fd ["number"] (vE T):=by
 refine D.F.okC JQ (fun vs H Q E h=>?_) (fun cdv A outer s H vs Q E hr h=>?_)
 . obtain ⟨i,rfl,_⟩:=h
   rfl
 . obtain ⟨i,rfl,k⟩:=h;refine ⟨_,(aM (bR (vX (c8 nR eO.g T.isinstance kM (ah (pvl 0 sN) (ah (vb (v:=.ty "int") qY.g T.int Wj rfl (hn:=qY.n) (hd:=qY.d)) am)) (hn:=eO.n) (hdb:=eO.d)) (yB (V0 (c8 nR eO.g T.isinstance kM (ah (pvl 0 sN) (ah (vb (v:=.ty "bool") qt.g T.bool Ue rfl (hn:=qt.n) (hd:=qt.d)) am)) (hn:=eO.n) (hdb:=eO.d))))))),?_⟩;rw [show L2.start ["number"] [V.int i]=[some (V.int i)] from rfl];walk_at "rd";refine ⟨_,_,_,true,rfl,.int i,fun cv h=>by cases h;rfl,_,rfl,?_⟩;rw [ag rfl];refine ⟨_,_,_,false,rfl,.int i,fun cv h=>by cases h;rfl,_,rfl,?_⟩;exact k
def rdS (s:Stp):List Int:=[min s.1 s.2.1,max s.1 s.2.1]
def sS (T:Txt K mg):Sp:=fun vs H Q _=>∃ (ls:Addr) (qs:List Addr) (ss:List Stp),vs=[.ref ls]/\H ls=some (.lst (qs.map V.ref))/\StepsAt H qs ss/\ss.length<=24/\(ss.map rdS).Nodup/\∀ H',Same H H'->Q (.bl true) H'
abbrev bt:Stmt:=top 54
theorem oA:FnScope ["steps","roads","step"] ["steps"] (ae bt):=FnScope.of (by kernel_rfl)
theorem oM:NmL (ae bt) "steps":=.of (by kernel_rfl)
theorem gK:NmL (ae bt) "roads":=.of (by kernel_rfl)
theorem db:NmL (ae bt) "step":=.of (by kernel_rfl)
theorem df:NmG (ae bt) "isinstance":=.of (by kernel_rfl)
theorem jO:NmG (ae bt) "list":=.of (by kernel_rfl)
theorem jE:NmG (ae bt) "tuple":=.of (by kernel_rfl)
theorem dS:NmG (ae bt) "len":=.of (by kernel_rfl)
theorem kJ:NmG (ae bt) "all":=.of (by kernel_rfl)
theorem kH:NmG (ae bt) "min":=.of (by kernel_rfl)
theorem kF:NmG (ae bt) "max":=.of (by kernel_rfl)
theorem wC:NmG (ae bt) "set":=.of (by kernel_rfl)
theorem AX (T:Txt K mg) (hq:cR (CXe P w)) {f:Addr} {fd:FuncData} (D:Df K mg "_law_steps_formed" bt ["steps"] f fd) {gQ:Addr} {pN:FuncData} (gf:Df K mg "_law_whole" eV ["number"] gQ pN) (oh:FnOk P w K mg base (CXe P w) 1 gQ pN ["number"] (vE T)):FnOk P w K mg base (CXe P w) 2 f fd ["steps"] (sS T):=by
 refine D.F.okC oA (fun vs H Q E h=>?_) (fun cdv A outer s H vs Q E hr h=>?_)
 . obtain ⟨ls,qs,ss,rfl,_⟩:=h
   rfl
 . obtain ⟨ls,qs,ss,rfl,hl,L,sl,nd,k⟩:=h;have hv:=hr.units;have hu:=wY hr;have qsl:qs.length=ss.length:=Paired.length L;refine ⟨_,(ay (dj (jo (jU (c8 nR df.g T.isinstance kM (ah (pvl 0 oM) (ah (vb (v:=.ty "list") jO.g T.list va rfl (hn:=jO.n) (hd:=jO.d)) am)) (hn:=df.n) (hdb:=df.d)))) (aM (bR uR)) b5) (ay (bp (i:=1) oA.nd rfl (Or.inl gK.l) (gZ am)) (ay (hZ PassesOwn.never rfl (p7 (pvl 0 oM)) (bJ (i:=2) oA.nd rfl (Or.inl db.l)) (ay (dj (PW.pt (uQ (jo (jU (c8 nR df.g T.isinstance kM (ah (pvl 2 db) (ah (vb (v:=.ty "tuple") jE.g T.tuple ie rfl (hn:=jE.n) (hd:=jE.d)) am)) (hn:=df.n) (hdb:=df.d)))) (uQ (bW tV (c8 fE dS.g T.len mt (ah (pvl 2 db) am) (hn:=dS.n) (hdb:=dS.d)) aF (bK _)) (yp (jo (jU (c8 (y7 rfl) kJ.g T.all E7 (ah (pO rfl (vV (Nc:=["number"]) 1 (by decide +kernel) (by decide +kernel) rfl (by decide +kernel) rfl) (vH (pvl 2 db)) (fun _ _ _ _=>(bJ (i:=0) (show (["number"]:List Str).Nodup from by decide +kernel) rfl (Or.inl rfl))) (fun _ _ _ _=>oq) (fun _ _ _ _=>(aZ oh (hr.mono (by decide)) (by rfl) gf.m gf.F.kp gf.b .nil (cI hq) (ah (pv 0) am)))) am) (hn:=kJ.n) (hdb:=kJ.d)))))))) (aM (bR uR)) b5) (aM (eK (pP PySem.F.plainAttrs_list PySem.F.slot_list_append PySem.F.type_list_append fX (pvl 1 gK) (ah (fJ (ah (c8 (P1 rfl) kH.g T.min PQ (ah (bI fh (pvl 2 db) aF (fun _ _=>rfl)) (ah (bI fh (pvl 2 db) aF (fun _ _=>rfl)) am)) (hn:=kH.n) (hdb:=kH.d)) (ah (c8 (PF rfl) kF.g T.max Vq (ah (bI fh (pvl 2 db) aF (fun _ _=>rfl)) (ah (bI fh (pvl 2 db) aF (fun _ _=>rfl)) am)) (hn:=kF.n) (hdb:=kF.d)) am))) am)))))) (aM (bR (i9 jB (QF rfl hv dS.g T.len wC.g T.set (ah (pvl 1 gK) am)) (c8 fE dS.g T.len mt (ah (pvl 1 gK) am) (hn:=dS.n) (hdb:=dS.d)) (bK _))))))),?_⟩;rw [show L2.start ["steps","roads","step"] [V.ref ls]=[some (V.ref ls),none,none] from rfl];unfold TK;refine f8 fun N1 h1=>?_;walk_at "rd";refine ⟨_,_,_,true,rfl,.lst hl,fun cv h=>by cases h;rfl,_,rfl,?_⟩;rw [aa (by decide)];refine h1 _ _ (f8 fun N2 h2=>?_);walk_at "rd";refine ⟨cu (by simp),fun lr nlr=>h2 _ _ (f8 fun N3 h3=>?_)⟩;have s1:=Same.new (HO.lst []) nlr;have e1:upd H lr (HO.lst []) lr=some (.lst []):=ao;generalize upd H lr (HO.lst [])=H1 at s1 e1 ⊢;walk_at "rd";refine ⟨⟨_,SqL.of (s1 _ _ hl)⟩,?_⟩;refine BJ (K:=K) (xs:=qs.map V.ref) (fun i σ H5=>Same H H5/\(∃ ps,H5 lr=some (.lst (ps.map V.ref))/\Paired (fun q k=>H5 q=some (.tup (k.map V.int))) ps ((ss.take i).map rdS))/\∃ v2,σ=[some (V.ref ls),some (V.ref lr),v2]) ⟨s1,⟨[],e1,.nil⟩,_,rfl⟩ (fun i σ H5 _ z=>SqL.of (z.1 _ _ hl)) ?_ ?_
   . rintro i y σ H5 N BB hBB hN hi ⟨s5,⟨ps,e5,P5⟩,v2,rfl⟩;obtain ⟨q,⟨u,v,n⟩,rfl,h1',h2',h3'⟩:=(StepsAt.same s5 L).get hi;have il:i<ss.length:=(aq.mp h2').1;refine hBB _ _ (f8 fun M1 k1=>?_);walk_at "rd";refine ⟨_,_,_,true,rfl,.tup h3',fun cv h=>by cases h;rfl,_,rfl,?_⟩;rw [aa (by decide)];refine ⟨_,.inr (SqT.of h3'),?_⟩;rw [aa (fun z=>z rfl)];refine ⟨⟨_,SqT.of h3'⟩,fun pc npc=>?_⟩;refine tR (K:=K) (c:=false) (a:=q) (xs:=vSt (u,v,n)) (fun i bs σ H6=>Same H5 H6/\H6 pc=some (.lst bs)/\bs=(List.replicate i true).map V.bl/\∃ v,σ=[v]) ⟨Same.new _ npc,ao,rfl,_,rfl⟩ (fun i bs σ H6 _ z=>SqT.of (z.1 _ _ h3')) ?_ ?_
     . rintro j y bs σ H6 M hM hj ⟨s6,e6,rfl,v',rfl⟩;have jl:j<3:=(aq.mp hj).1;obtain ⟨z,rfl⟩:∃ z,y=V.int z:=by
         have:=a8 hj;simp only [vSt,az,kE,or_false] at this;rcases this with h|h|h
         . exact ⟨_,h⟩
         . exact ⟨_,h⟩
         . exact ⟨_,h⟩
       walk_at "rd";refine ⟨z,rfl,e6,eT (by rw [ai,c7];omega),hM _ _ _ ⟨s6.put npc _,ao,?_,_,rfl⟩⟩;rw [mN,aA]
       rfl
     . rintro bs σ H6 ⟨s6,e6,rfl,v',rfl⟩;refine ⟨pc,rfl,_,SqL.of e6,?_⟩;rw [aa (by simp [vSt])];refine k1 _ _ ?_;have h6:H6 q=some (.tup [V.int u,V.int v,V.int n]):=s6 _ _ h3';have e56:=s6 _ _ e5;walk_at "rd";refine ⟨tyL e56,ixT h6 rfl (ixT h6 rfl ⟨_,_,⟨rfl,rfl⟩,ixT h6 rfl (ixT h6 rfl ⟨_,_,⟨rfl,rfl⟩,cu (by simp),fun pp npp=>?_⟩)⟩)⟩;have em:(if v<u then v else u)=min u v:=(by by_cases c:v<u <;> simp only [c,if_true,if_false] <;> omega);have eM:(if v > u then v else u)=max u v:=(by by_cases c:v > u <;> simp only [c,if_true,if_false] <;> omega);rw [em,eM];have s7:=Same.new (HO.tup [V.int (min u v),V.int (max u v)]) npp;have e7:upd H6 pp (HO.tup [V.int (min u v),V.int (max u v)]) pp=some (.tup ((rdS (u,v,n)).map V.int)):=ao;generalize upd H6 pp (HO.tup [V.int (min u v),V.int (max u v)])=H7 at s7 e7 ⊢;have e57:=s7 _ _ e56;have s67:=s6.trans s7;have psl:ps.length<=24:=by
         rw [Paired.length P5,ai,bu];omega
       refine tD e57 (eT (by rw [ai];omega)) (hN _ _ ⟨(s5.trans s67).put nlr _,⟨ps++[pp],by rw [ao,aA];rfl,?_⟩,_,rfl⟩);rw [List.take_add_one,h2',aA];refine CA (by rw [aX (oW e7 e57 (by intro z;cases z))];exact e7) ?_;refine Paired.imp' (fun b x e=>?_) P5;rw [aX (oW (s67 _ _ e) e57 (by intro z;cases z))];exact s67 _ _ e
   . rintro BB σ H5 hBB ⟨s5,⟨ps,e5,P5⟩,v2,rfl⟩;refine hBB _ _ (h3 _ _ ?_);walk_at "rd";have e0:(ss.take (qs.map V.ref).length).map rdS=ss.map rdS:=(by rw [ai,qsl,bx]);rw [e0] at P5;have pl:ps.length=ss.length:=(by rw [Paired.length P5,ai]);refine ⟨ps,e5,_,P5,nd,by omega,_,.inl (SqL.of e5),?_⟩;rw [ai,aW rfl];exact k _ s5
def pS (T:Txt K mg):Sp:=fun vs H Q E=>∃ (p t:Addr) (m:Int) (ps:List Addr) (rs:List Road) (n:Int),vs=[.ref p,.int n]/\WebAt T.Web H p m t ps rs/\(0<=n->n<m->Q .non H)/\(¬ (0<=n/\n<m)->E (.ref T.NoPlace) none H)
abbrev dC:Stmt:=top 14
theorem FK:FnScope ["web","number"] ["web","number"] (ae dC):=FnScope.of (by kernel_rfl)
theorem BS:NmL (ae dC) "web":=.of (by kernel_rfl)
theorem yz:NmL (ae dC) "number":=.of (by kernel_rfl)
theorem qg:NmG (ae dC) "is_place":=.of (by kernel_rfl)
theorem qF:NmG (ae dC) "NoPlace":=.of (by kernel_rfl)
theorem Gk (T:Txt K mg) (hq:cR (CXe P w)) {f:Addr} {fd:FuncData} (D:Df K mg "check_place" dC ["web","number"] f fd) {ir:Addr} {qM:FuncData} (fq:Df K mg "is_place" g2 ["many","number"] ir qM) (m8:FnOk P w K mg base (CXe P w) 1 ir qM ["many","number"] (yd T)):FnOk P w K mg base (CXe P w) 2 f fd ["web","number"] (pS T):=by
 refine D.F.okX FK (fun vs H Q E h=>?_) (fun cdv A outer s H vs Q E hr h=>?_)
 . obtain ⟨p,t,m,ps,rs,n,rfl,_⟩:=h
   rfl
 . obtain ⟨p,t,m,ps,rs,n,rfl,W,k,e⟩:=h;obtain ⟨dx,ob⟩:=W.ob;refine ⟨_,(aM (dj (jo (jU (aZ m8 (hr.mono (by decide)) qg.g fq.m fq.F.kp fq.b .nil gk (ah (vd  (pvl 0 BS) rfl) (ah (pvl 1 yz) am)) (hdb:=qg.d)))) (aM (zv T.QQ rfl Cu qF.g T.QR (ah qK am) (hdb:=qF.d))) b5)),?_⟩;rw [show L2.start ["web","number"] [V.ref p,V.int n]=[some (V.ref p),some (V.int n)] from rfl];walk_at "rd";refine ⟨T.Web,dx,_,ob,T.si,T.n_many,_,uW m t,m,n,rfl,_,rfl,?_⟩;by_cases c:0<=n/\n<m
   . rw [aa (by simp [c.1,c.2])];exact k c.1 c.2
   . rw [ag (by simpa [bn] using c)];exact ⟨by decide,e c⟩
def MQ (T:Txt K mg):Sp:=fun vs H Q E=>∃ (p t:Addr) (m:Int) (ps:List Addr) (rs:List Road) (a b:Int),vs=[.ref p,.int a,.int b]/\WebAt T.Web H p m t ps rs /\
 (∀ k,0<=a->a<m->0<=b->b<m->bM rs a b=some k->Q (.int k) H)/\(¬ ((0<=a/\a<m)/\(0<=b/\b<m))->E (.ref T.NoPlace) none H)/\(0<=a->a<m->0<=b->b<m->bM rs a b=none->E (.ref T.NoRoad) none H)
abbrev iT:Stmt:=top 12
theorem yq:FnScope ["web","a","b","one","other","there","back"] ["web","a","b"] (ae iT):=FnScope.of (by kernel_rfl)
theorem yc:NmL (ae iT) "web":=.of (by kernel_rfl)
theorem Bo:NmL (ae iT) "a":=.of (by kernel_rfl)
theorem BC:NmL (ae iT) "b":=.of (by kernel_rfl)
theorem xB:NmL (ae iT) "one":=.of (by kernel_rfl)
theorem uo:NmL (ae iT) "other":=.of (by kernel_rfl)
theorem Aq:NmL (ae iT) "there":=.of (by kernel_rfl)
theorem Cc:NmL (ae iT) "back":=.of (by kernel_rfl)
theorem kf:NmG (ae iT) "check_place":=.of (by kernel_rfl)
theorem yy:NmG (ae iT) "NoRoad":=.of (by kernel_rfl)
theorem Ul (T:Txt K mg) (hq:cR (CXe P w)) {f:Addr} {fd:FuncData} (D:Df K mg "toll" iT ["web","a","b"] f fd) {dW:Addr} {gC:FuncData} (ck:Df K mg "check_place" dC ["web","number"] dW gC) (fM:FnOk P w K mg base (CXe P w) 2 dW gC ["web","number"] (pS T)):FnOk P w K mg base (CXe P w) 3 f fd ["web","a","b"] (MQ T):=by
 refine D.F.okX yq (fun vs H Q E h=>?_) (fun cdv A outer s H vs Q E hr h=>?_)
 . obtain ⟨p,t,m,ps,rs,a,b,rfl,_⟩:=h
   rfl
 . obtain ⟨p,t,m,ps,rs,a,b,rfl,W,k,e1,e2⟩:=h;obtain ⟨dx,ob⟩:=W.ob;refine ⟨_,(ay (eK (aZ fM (hr.mono (by decide)) kf.g ck.m ck.F.kp ck.b .nil gk (ah (pvl 0 yc) (ah (pvl 1 Bo) am)) (hdb:=kf.d))) (ay (eK (aZ fM (hr.mono (by decide)) kf.g ck.m ck.F.kp ck.b .nil gk (ah (pvl 0 yc) (ah (pvl 2 BC) am)) (hdb:=kf.d))) (ay (hZ PassesOwn.leaving rfl (vH (vd  (pvl 0 yc) rfl)) (sg (n:=4) rfl (dE (bJ (i:=3) yq.nd rfl (Or.inl xB.l)) (dE (bJ (i:=4) yq.nd rfl (Or.inl uo.l)) (dE (bJ (i:=5) yq.nd rfl (Or.inl Aq.l)) (dE (bJ (i:=6) yq.nd rfl (Or.inl Cc.l)) qe))))) (ay (dj (PW.pt (rS (bW jB (pvl 3 xB) (pvl 1 Bo) (bK _)) (tH (bW jB (pvl 4 uo) (pvl 2 BC) (bK _))))) (aM (bR (pvl 5 Aq))) b5) (aM (dj (PW.pt (rS (bW jB (pvl 3 xB) (pvl 2 BC) (bK _)) (tH (bW jB (pvl 4 uo) (pvl 1 Bo) (bK _))))) (aM (bR (pvl 6 Cc))) b5)))) (aM (zv T.To rfl Cu yy.g T.R9 (ah qK am) (hdb:=yy.d)))))),?_⟩;rw [show L2.start ["web","a","b","one","other","there","back"] [V.ref p,V.int a,V.int b]=[some (V.ref p),some (V.int a),some (V.int b),none,none,none,none] from rfl];walk_at "rd";refine ⟨p,t,m,ps,rs,a,rfl,W,fun a0 a1=>?_,fun z=>e1 fun w=>z w.1⟩;refine ⟨p,t,m,ps,rs,b,rfl,W,fun b0 b1=>?_,fun z=>e1 fun w=>z w.2⟩;refine ⟨T.Web,dx,_,ob,T.si,T.n_roads,_,C7 m t,t,rfl,⟨_,SqT.of W.tu⟩,?_⟩;have hlen:ps.length=rs.length:=Paired.length W.ro;refine Jm (K:=K) (xs:=ps.map V.ref) (fun i σ H2=>H2=H/\bM (rs.take i) a b=none/\∃ v1 v2 v3 v4,σ=[some (V.ref p),some (V.int a),some (V.int b),v1,v2,v3,v4]) ⟨rfl,rfl,_,_,_,_,rfl⟩ (fun i σ H2 _ z=>by rw [z.1];exact SqT.of W.tu) ?_ ?_
   . rintro i x σ H2 N hN hx ⟨rfl,hno,v1,v2,v3,v4,rfl⟩;obtain ⟨q,r,rfl,h1,h2,h3⟩:=W.ro.get hx;have et:rs.take (i+1)=rs.take i++[r]:=(by rw [b4,h2];rfl);have split:bM rs a b=(bM (rs.take i) a b).or ((g8 a b r).or (bM (rs.drop (i+1)) a b)):=by
       have:rs=rs.take i++r::rs.drop (i+1):=by
         have hil:i<rs.length:=(aq.mp h2).1;have e:rs[i]=r:=(by rw [ax hil] at h2;exact bi h2);rw [<- e,mH,fQ]
       conv=>lhs;rw [this]
       unfold bM;rw [iJ,jt];cases g8 a b r <;> rfl
     rw [hno,Option.none_or] at split;walk_at "rd";refine ⟨_,SqT.of h3,rfl,_,_,rfl,_,_,rfl,_,_,rfl,_,_,rfl,rfl,?_⟩;walk_at "rd";have next:g8 a b r=none->N [some (V.ref p),some (V.int a),some (V.int b),some (V.int r.a),some (V.int r.b),some (V.int r.t),some (V.int r.u)] H2:=fun z=>hN _ _ ⟨rfl,by
       rw [et];unfold bM at hno ⊢;rw [iJ,hno,jt,z]
       rfl,_,_,_,_,rfl⟩
     have got:∀ v,g8 a b r=some v->bM rs a b=some v:=fun v z=>by rw [split,z];rfl
     unfold g8 at next got;split
     . rename_i c1
       split
       . rename_i c2
         exact k _ a0 a1 b0 b1 (got _ (by rw [ag ⟨c1,c2⟩]))
       . rename_i c2
         split
         . rename_i c3
           split
           . rename_i c4
             exact k _ a0 a1 b0 b1 (got _ (by rw [aa (fun z=>c2 z.2),ag ⟨c3,c4⟩]))
           . rename_i c4
             exact next (by rw [aa (fun z=>c2 z.2),aa (fun z=>c4 z.2)])
         . rename_i c3
           exact next (by rw [aa (fun z=>c2 z.2),aa (fun z=>c3 z.1)])
     . rename_i c1
       split
       . rename_i c3
         split
         . rename_i c4
           exact k _ a0 a1 b0 b1 (got _ (by rw [aa (fun z=>c1 z.1),ag ⟨c3,c4⟩]))
         . rename_i c4
           exact next (by rw [aa (fun z=>c1 z.1),aa (fun z=>c4 z.2)])
       . rename_i c3
         exact next (by rw [aa (fun z=>c1 z.1),aa (fun z=>c3 z.1)])
   . rintro σ H2 ⟨rfl,hno,v1,v2,v3,v4,rfl⟩;rw [ai,hlen,bx] at hno;walk_at "rd";exact ⟨by decide,e2 a0 a1 b0 b1 hno⟩
def vI (T:Txt K mg):Sp:=fun vs H Q _=>∃ (p t:Addr) (m:Int) (ps:List Addr) (rs:List Road) (x v u k1 k2:Int),vs=[.ref p,.int x,.int v,.int u]/\WebAt T.Web H p m t ps rs/\(0<=v/\v<m)/\(0<=u/\u<m)/\bM rs v u=some k1/\bM rs u v=some k2/\(2<=k1/\k1<=1000000)/\(2<=k2/\k2<=1000000)/\Q (.int (if 0<=x then x / k1 else x*k2)) H
abbrev eD:Stmt:=top 32
theorem Jh:FnScope ["web","over","place","front"] ["web","over","place","front"] (ae eD):=FnScope.of (by kernel_rfl)
theorem vZ:NmL (ae eD) "web":=.of (by kernel_rfl)
theorem qm:NmL (ae eD) "over":=.of (by kernel_rfl)
theorem uh:NmL (ae eD) "place":=.of (by kernel_rfl)
theorem ub:NmL (ae eD) "front":=.of (by kernel_rfl)
theorem l9:NmG (ae eD) "toll":=.of (by kernel_rfl)
theorem JY (T:Txt K mg) (hq:cR (CXe P w)) {f:Addr} {fd:FuncData} (D:Df K mg "handed_on" eD ["web","over","place","front"] f fd) {wz:Addr} {MO:FuncData} (sf:Df K mg "toll" iT ["web","a","b"] wz MO) (Fw:FnOk P w K mg base (CXe P w) 3 wz MO ["web","a","b"] (MQ T)):FnOk P w K mg base (CXe P w) 4 f fd ["web","over","place","front"] (vI T):=by
 refine D.F.okX Jh (fun vs H Q E h=>?_) (fun cdv A outer s H vs Q E hr h=>?_)
 . obtain ⟨p,t,m,ps,rs,x,v,u,k1,k2,rfl,_⟩:=h
   rfl
 . obtain ⟨p,t,m,ps,rs,x,v,u,k1,k2,rfl,W,vr,ur,h1,h2,kr1,kr2,k⟩:=h;refine ⟨_,(ay (dj (bW CC (pvl 1 qm) aF (bK _)) (aM (bR (bd gA (pvl 1 qm) (aZ Fw (hr.mono (by decide)) l9.g sf.m sf.F.kp sf.b .nil gk (ah (pvl 0 vZ) (ah (pvl 2 uh) (ah (pvl 3 ub) am))) (hdb:=l9.d))))) b5) (aM (bR (bd pC (pvl 1 qm) (aZ Fw (hr.mono (by decide)) l9.g sf.m sf.F.kp sf.b .nil gk (ah (pvl 0 vZ) (ah (pvl 3 ub) (ah (pvl 2 uh) am))) (hdb:=l9.d)))))),?_⟩;rw [show L2.start ["web","over","place","front"] [V.ref p,V.int x,V.int v,V.int u]=[some (V.ref p),some (V.int x),some (V.int v),some (V.int u)] from rfl];walk_at "rd";by_cases c:0<=x
   . rw [ag c] at k ⊢;refine ⟨p,t,m,ps,rs,v,u,rfl,W,fun k' _ _ _ _ h=>?_,fun z=>absurd ⟨vr,ur⟩ z,fun _ _ _ _ z=>by rw [h1] at z;cases z⟩;rw [h1] at h;cases h;exact ⟨_,rfl,⟨by omega,by omega⟩,k⟩
   . rw [aa c] at k ⊢;refine ⟨p,t,m,ps,rs,u,v,rfl,W,fun k' _ _ _ _ h=>?_,fun z=>absurd ⟨ur,vr⟩ z,fun _ _ _ _ z=>by rw [h2] at z;cases z⟩;rw [h2] at h;cases h;exact ⟨_,rfl,.inr ⟨by omega,by omega⟩,k⟩
def AI (T:Txt K mg):Sp:=fun vs H Q E=>∃ (p t:Addr) (m:Int) (ps:List Addr) (rs:List Road) (a:Int),vs=[.ref p,.int a]/\WebAt T.Web H p m t ps rs /\
 (∀ l H',0<=a->a<m->H l=none->Same H H'->H' l=some (.lst ((m9 m rs a).map V.int))->Q (.ref l) H')/\(¬ (0<=a/\a<m)->E (.ref T.NoPlace) none H)
abbrev eB:Stmt:=top 13
theorem Hw:FnScope ["web","a"] ["web","a"] (ae eB):=FnScope.of (by kernel_rfl)
theorem uL:NmL (ae eB) "web":=.of (by kernel_rfl)
theorem w4:NmL (ae eB) "a":=.of (by kernel_rfl)
theorem oN:NmG (ae eB) "check_place":=.of (by kernel_rfl)
theorem nh:NmG (ae eB) "sorted":=.of (by kernel_rfl)
theorem o4:NmG (ae eB) "other_ends":=.of (by kernel_rfl)
theorem HP (T:Txt K mg) (hq:cR (CXe P w)) {f:Addr} {fd:FuncData} (D:Df K mg "neighbours" eB ["web","a"] f fd) {dW:Addr} {gC:FuncData} (ck:Df K mg "check_place" dC ["web","number"] dW gC) (fM:FnOk P w K mg base (CXe P w) 2 dW gC ["web","number"] (pS T)) {f7:Addr} {nO:FuncData} (fG:Df K mg "other_ends" eC ["roads","place"] f7 nO) (mw:FnOk P w K mg base (CXe P w) 1 f7 nO ["roads","place"] (uu T)):FnOk P w K mg base (CXe P w) 3 f fd ["web","a"] (AI T):=by
 refine D.F.okX Hw (fun vs H Q E h=>?_) (fun cdv A outer s H vs Q E hr h=>?_)
 . obtain ⟨p,t,m,ps,rs,a,rfl,_⟩:=h
   rfl
 . obtain ⟨p,t,m,ps,rs,a,rfl,W,k,e⟩:=h;obtain ⟨dx,ob⟩:=W.ob;refine ⟨_,(ay (eK (aZ fM (hr.mono (by decide)) oN.g ck.m ck.F.kp ck.b .nil gk (ah (pvl 0 uL) (ah (pvl 1 w4) am)) (hdb:=oN.d))) (aM (bR (c8 L1 nh.g T.sorted P6 (ah (aZ mw (hr.mono (by decide)) o4.g fG.m fG.F.kp fG.b .nil gk (ah (vd  (pvl 0 uL) rfl) (ah (pvl 1 w4) am)) (hdb:=o4.d)) am) (hn:=nh.n) (hdb:=nh.d))))),?_⟩;rw [show L2.start ["web","a"] [V.ref p,V.int a]=[some (V.ref p),some (V.int a)] from rfl];walk_at "rd";refine ⟨p,t,m,ps,rs,a,rfl,W,fun a0 a1=>?_,e⟩;have hlen:(rs.length:Int)=m - 1:=W.go.len;have m24:=W.go.m24;refine ⟨T.Web,dx,_,ob,T.si,T.n_roads,_,C7 m t,t,ps,rs,a,rfl,SqT.of W.tu,W.ro,by omega,fun l1 H1 n1 s1 e1=>?_⟩;refine ⟨l1,rfl,fz rs a,SqL.of e1,by have:=IU rs a;omega,fun l2 zs n2 pz sz=>?_⟩;rw [U2 W.go a0 a1 pz sz];exact k l2 _ a0 a1 (s1.free n2) (s1.trans (Same.new _ n2)) ao
def FJ (T:Txt K mg):Sp:=fun vs H Q _=>∃ (p t:Addr) (m:Int) (ps:List Addr) (rs:List Road) (a:Int) (fv:V),vs=[.ref p,.int a,fv]/\WebAt T.Web H p m t ps rs/\0<=a/\a<m/\(fv=.non\/∃ i,fv=.int i) /\
 ∀ l H',H l=none->Same H H'->H' l=some (.lst ((bA m rs fv a).map V.int))->Q (.ref l) H'
abbrev lz:Stmt:=top 27
theorem Ub:FnScope ["web","place","front"] ["web","place","front"] (ae lz):=FnScope.of (by kernel_rfl)
theorem LB:NmL (ae lz) "web":=.of (by kernel_rfl)
theorem G8:NmL (ae lz) "place":=.of (by kernel_rfl)
theorem Va:NmC (ae lz) "front":=.of (by kernel_rfl)
theorem uf:NmG (ae lz) "neighbours":=.of (by kernel_rfl)
theorem Ug (T:Txt K mg) (hq:cR (CXe P w)) {f:Addr} {fd:FuncData} (D:Df K mg "kids" lz ["web","place","front"] f fd) {ka:Addr} {Au:FuncData} (mF:Df K mg "neighbours" eB ["web","a"] ka Au) (ve:FnOk P w K mg base (CXe P w) 3 ka Au ["web","a"] (AI T)):FnOk P w K mg base (CXe P w) 4 f fd ["web","place","front"] (FJ T):=by
 refine D.F.okC Ub (fun vs H Q E h=>?_) (fun cdv A outer s H vs Q E hr h=>?_)
 . obtain ⟨p,t,m,ps,rs,a,fv,rfl,_⟩:=h
   rfl
 . obtain ⟨p,t,m,ps,rs,a,fv,rfl,W,a0,a1,hf,k⟩:=h;have m24:=W.go.m24;refine ⟨_,(aM (bR (pO rfl (tG (Nc:=["near","front"]) 1 [2] (by decide +kernel) rfl (by decide +kernel) rfl (by show ∀ (y:Str × NameKind),y∈_->y.2=NameKind.free->(ae lz).names.lookup y.1=some NameKind.cell;decide +kernel) rfl (fun _ h=>nC h) (fun i hi=>match i,hi with|0,_=>⟨"front",2,rfl,rfl,rfl,by decide +kernel⟩|i+1,hi=>absurd hi (by show ¬ i+1<1;omega))) (p7 (aZ ve (hr.mono (by decide)) uf.g mF.m mF.F.kp mF.b .nil (cI hq) (ah (pvl 0 LB) (ah (pvl 1 G8) am)) (hdb:=uf.d))) (fun _ _ _ _=>(bJ (i:=0) (show (["near","front"]:List Str).Nodup from by decide +kernel) rfl (Or.inl rfl))) (fun _ _ _ _=>(MS (bW tV (pv 0) (pv 1) (bK _)))) (fun _ _ _ _=>(pv 0))))),?_⟩;rw [show L2.start ["web","place","front"] [V.ref p,V.int a,fv]=[some (V.ref p),some (V.int a),some fv] from rfl];walk_at "rd";have nl:(m9 m rs a).length<=24:=by
     have:=cH (fun q=>decide (q∈fz rs a)) (below m.toNat);rw [dq] at this;unfold m9;omega
   refine ⟨p,t,m,ps,rs,a,rfl,W,fun l1 H1 _ _ n1 s1 e1=>⟨l1,rfl,⟨_,SqL.of e1⟩,fun l2 n2=>?_⟩,fun z=>absurd ⟨a0,a1⟩ z⟩;have n20:H l2=none:=s1.free n2;refine tR (c:=true) (K:=K) (a:=l1) (xs:=(m9 m rs a).map V.int) (fun j ys σ H2=>Same H1 H2/\H2 l2=some (.lst ys)/\ys=(((m9 m rs a).take j).filter fun v=>decide (V.int v≠fv)).map V.int/\∃ v,σ=[v,some fv]) ⟨Same.new _ n2,ao,rfl,_,rfl⟩ (fun j ys σ H2 _ z=>SqL.of (z.1 _ _ e1)) ?_ ?_
   . rintro j xj ys σ H2 N hN hj ⟨s2,h2,rfl,v,rfl⟩;rw [aP] at hj;obtain ⟨b,hb,rfl⟩:=cM.mp hj;have et:(m9 m rs a).take (j+1)=(m9 m rs a).take j++[b]:=(by rw [b4,hb];rfl);have ll:(((m9 m rs a).take j).filter fun v=>decide (V.int v≠fv)).length<=24:=by
       have h1:=cH (fun v=>decide (V.int v≠fv)) ((m9 m rs a).take j);rw [bu] at h1;omega
     walk_at "rd";have sc:xb (V.int b) fv=true:=by
       rcases hf with rfl|⟨i,rfl⟩ <;> rfl
     refine ⟨sc,?_⟩;by_cases c:V.int b=fv
     . rw [aa (fun z=>z c)];refine hN _ _ _ ⟨s2,h2,?_,_,rfl⟩;rw [et,b9];simp [c]
     . rw [ag c];refine ⟨h2,eT (by rw [ai];omega),hN _ _ _ ⟨s2.put n2 _,ao,?_,_,rfl⟩⟩;rw [et,b9];simp [c]
   . rintro ys σ H2 ⟨s2,h2,rfl,v,rfl⟩;rw [ai,bx] at h2;exact k l2 H2 n20 (s1.trans s2) h2
def DT (T:Txt K mg):Sp:=fun vs H Q E=>∃ (p t:Addr) (m:Int) (ps:List Addr) (rs:List Road) (r:Int),vs=[.ref p,.int r]/\WebAt T.Web H p m t ps rs /\
 (0<=r->r<m->∃ par dep,Rooted m rs r par dep/\∀ l H',H l=none->Same H H'->H' l=some (.lst (xN m r par))->Q (.ref l) H')/\(¬ (0<=r/\r<m)->E (.ref T.NoPlace) none H)
abbrev f6:Stmt:=top 25
theorem tK:FnScope ["web","r","nearer","waiting","place","front","kid"] ["web","r"] (ae f6):=FnScope.of (by kernel_rfl)
theorem vo:NmL (ae f6) "web":=.of (by kernel_rfl)
theorem EY:NmL (ae f6) "r":=.of (by kernel_rfl)
theorem oP:NmL (ae f6) "nearer":=.of (by kernel_rfl)
theorem m6:NmL (ae f6) "waiting":=.of (by kernel_rfl)
theorem pU:NmL (ae f6) "place":=.of (by kernel_rfl)
theorem yX:NmL (ae f6) "front":=.of (by kernel_rfl)
theorem vN:NmL (ae f6) "kid":=.of (by kernel_rfl)
theorem rM:NmG (ae f6) "check_place":=.of (by kernel_rfl)
theorem AG:NmG (ae f6) "kids":=.of (by kernel_rfl)
theorem TB (T:Txt K mg) (hq:cR (CXe P w)) {f:Addr} {fd:FuncData} (D:Df K mg "ahead" f6 ["web","r"] f fd) {dW:Addr} {gC:FuncData} (ck:Df K mg "check_place" dC ["web","number"] dW gC) (fM:FnOk P w K mg base (CXe P w) 2 dW gC ["web","number"] (pS T)) {qG:Addr} {yY:FuncData} (pE:Df K mg "kids" lz ["web","place","front"] qG yY) (yo:FnOk P w K mg base (CXe P w) 4 qG yY ["web","place","front"] (FJ T)):FnOk P w K mg base (CXe P w) 5 f fd ["web","r"] (DT T):=by
 refine D.F.okX tK (fun vs H Q E h=>?_) (fun cdv A outer s H vs Q E hr h=>?_)
 . obtain ⟨p,t,m,ps,rs,r,rfl,_⟩:=h
   rfl
 . obtain ⟨p,t,m,ps,rs,r,rfl,W,k,e⟩:=h;obtain ⟨dx,ob⟩:=W.ob;have g:=W.go;have m24:=g.m24;refine ⟨_,(ay (eK (aZ fM (hr.mono (by decide)) rM.g ck.m ck.F.kp ck.b .nil gk (ah (pvl 0 vo) (ah (pvl 1 EY) am)) (hdb:=rM.d))) (ay (bp (i:=2) tK.nd rfl (Or.inl oP.l) (bd JP (gZ (ah Kw am)) (vd  (pvl 0 vo) rfl))) (ay (bp (i:=3) tK.nd rfl (Or.inl m6.l) (gZ (ah (pvl 1 EY) am))) (ay (zW PassesOwn.leaving (Ex (pvl 3 m6) (fun _=>rfl)) (ay (bp (i:=4) tK.nd rfl (Or.inl pU.l) (Ku PySem.F.plainAttrs_list PySem.F.slot_list_pop PySem.F.type_list_pop Jf (pvl 3 m6))) (ay (bp (i:=5) tK.nd rfl (Or.inl yX.l) (bI b6 (pvl 2 oP) (pvl 4 pU) (fun _ _=>rfl))) (aM (hZ PassesOwn.leaving rfl (p7 (aZ yo (hr.mono (by decide)) AG.g pE.m pE.F.kp pE.b .nil gk (ah (pvl 0 vo) (ah (pvl 4 pU) (ah (pvl 5 yX) am))) (hdb:=AG.d))) (bJ (i:=6) tK.nd rfl (Or.inl vN.l)) (ay (ph (pvl 4 pU) (rQ (pvl 2 oP) (pvl 6 vN) lQ)) (aM (eK (pP PySem.F.plainAttrs_list PySem.F.slot_list_append PySem.F.type_list_append fX (pvl 3 m6) (ah (pvl 6 vN) am)))))))))) (aM (bR (pvl 2 oP))))))),?_⟩;rw [show L2.start ["web","r","nearer","waiting","place","front","kid"] [V.ref p,V.int r]=[some (V.ref p),some (V.int r),none,none,none,none,none] from rfl];walk_at "rd";refine ⟨p,t,m,ps,rs,r,rfl,W,fun r0 r1=>?_,e⟩;obtain ⟨par,dep,R,k⟩:=k r0 r1;refine ⟨by decide,fun l1 n1=>?_⟩;have s1:=Same.new (.lst [V.non]) n1;refine ⟨T.Web,dx,_,s1 _ _ ob,T.si,T.n_many,_,rfl,?_⟩;refine ⟨l1,m,[V.non],rfl,rfl,ao,by omega,by omega,cu (by simp;omega),fun l2 n2=>?_⟩;have n20:H l2=none:=s1.free n2;rw [R7,<- VF (par:=par)];have s2:=s1.trans (Same.new (.lst (nl m par [])) n2);refine ⟨cu (by simp),fun l3 n3=>?_⟩;have n30:H l3=none:=s2.free n3;have n32:l3≠l2:=fun z=>by rw [z,ao] at n3;cases n3
   have s3:=s2.trans (Same.new (.lst [V.int r]) n3);have e2:upd (upd (upd H l1 (.lst [V.non])) l2 (.lst (nl m par []))) l3 (.lst [V.int r]) l2=some (.lst (nl m par [])):=by rw [aX n32.symm,ao]
   have e3:upd (upd (upd H l1 (.lst [V.non])) l2 (.lst (nl m par []))) l3 (.lst [V.int r]) l3=some (.lst [V.int r]):=ao;generalize upd (upd (upd H l1 (.lst [V.non])) l2 (.lst (nl m par []))) l3 (.lst [V.int r])=H3 at s3 e2 e3 ⊢;refine MW (fun n σ H4=>∃ (ks ws:List Int) (v4 v5 v6:Option V),n=2*(m.toNat - ks.length)+ws.length/\σ=[some (.ref p),some (.int r),some (.ref l2),some (.ref l3),v4,v5,v6]/\Same H H4/\H4 l2=some (.lst (nl m par ks))/\H4 l3=some (.lst (ws.map V.int))/\AInv m rs r par ks ws) (2*m.toNat+1) ⟨[],[r],_,_,_,rfl,rfl,s3,e2,e3,AInv.start⟩ ?_;rintro n σ H4 NW BB hBB hN hN2 ⟨ks,ws,v4,v5,v6,rfl,rfl,s4,h2,h3,J⟩;refine hBB _ _ _ ?_;have kl:=fZ (by omega) J.nd J.rng;walk_at "rd";refine ⟨_,.inl ⟨_,SqL.of h3,rfl⟩,?_⟩;rcases iK ws with rfl|⟨ws',q,rfl⟩
   . rw [aa (by simp)];rw [J.done R] at h2;exact k l2 H4 n20 s4 h2
   . rw [iQ] at J h3 hN hN2 ⊢;rw [ag (by simp)];have hq:q∈ws'++[q]:=aN _ (aB.mpr rfl);have pr:=J.at_ r0 r1 hq;have J2:=J.step g R r0 r1 (p:=q) (ws':=ws') (jJ q ws');refine ⟨NW,fun σ' H' z=>?_,?_⟩
     . obtain ⟨m',lt,ks',ws'',a4,a5,a6,e1,e2,e3⟩:=hN2 _ _ z;exact ⟨m',lt,ks',ws'',e1,a4,a5,a6,e2,e3⟩
     rw [aA,aK,ff] at h3;refine ⟨tyL h3,Rj h3 ?_⟩;have s5:Same H (upd H4 l3 (.lst (ws'.map V.int))):=s4.put n30 _;have h25:upd H4 l3 (.lst (ws'.map V.int)) l2=some (.lst (nl m par ks)):=(by rw [aX n32.symm];exact h2);have h35:upd H4 l3 (.lst (ws'.map V.int)) l3=some (.lst (ws'.map V.int)):=ao;generalize upd H4 l3 (.lst (ws'.map V.int))=H5 at s5 h25 h35 ⊢;refine ixL h25 (Cz pr.1 (QT pr.1 pr.2)) ?_;rw [J.front hq];have hfv:Pb.front r par q=.non\/∃ i,Pb.front r par q=.int i:=by
       unfold Pb.front;by_cases c:q=r
       . rw [ag c];exact .inl rfl
       . rw [aa c];exact .inr ⟨_,rfl⟩
     have mk:∀ v,v∈bA m rs (Pb.front r par q) q->(0<=v/\v<m)/\v≠r/\par v=q:=fun v=>(dQ g R pr.1 pr.2).mp;refine ⟨p,t,m,ps,rs,q,_,rfl,W.same s5,pr.1,pr.2,hfv,fun l6 H6 n6 s6 e6=>⟨l6,rfl,⟨_,SqL.of e6⟩,?_⟩⟩;generalize bA m rs (Pb.front r par q) q=kk at mk e6 J2 ⊢;have n6':H l6=none:=s5.free n6;have n62:l6≠l2:=fun z=>by rw [z,h25] at n6;cases n6
     have n63:l6≠l3:=fun z=>by rw [z,h35] at n6;cases n6
     have kl2:=fZ (by omega) J2.nd J2.rng;rw [aH] at kl2;have wl2:=fZ (by omega) J2.wnd fun w hw=>J2.at_ r0 r1 hw;rw [aH] at wl2;refine BJ (K:=K) (xs:=kk.map V.int) (fun i σ H7=>∃ v6,σ=[some (.ref p),some (.int r),some (.ref l2),some (.ref l3),some (.int q),some (Pb.front r par q),v6]/\Same H H7/\H7 l6=some (.lst (kk.map V.int))/\H7 l2=some (.lst (nl m par (ks++kk.take i)))/\H7 l3=some (.lst ((ws'++kk.take i).map V.int))) ⟨_,rfl,s5.trans s6,e6,by rw [dJ,bC];exact s6 _ _ h25,by rw [dJ,bC];exact s6 _ _ h35⟩ (fun i σ H7 _ z=>by obtain ⟨_,_,_,z,_⟩:=z;exact SqL.of z) ?_ ?_
     . rintro i x σ H7 NI BB hBB hI hi ⟨v6,rfl,s7,e7,h27,h37⟩;refine hBB _ _ ?_;rw [aP] at hi;obtain ⟨v,hv,rfl⟩:=cM.mp hi;obtain ⟨vr,_,vp⟩:=mk v (a8 hv);have et:kk.take (i+1)=kk.take i++[v]:=(by rw [b4,hv];rfl);walk_at "rd";refine ⟨l2,_,v,v.toNat,rfl,rfl,h27,by unfold ixN;rw [ag vr.1,ag (by rw [wU];omega)],?_⟩;rw [<- vp,Vf vr.1 vr.2,vp,bX,<- et];have h38:upd H7 l2 (.lst (nl m par (ks++kk.take (i+1)))) l3=some (.lst ((ws'++kk.take i).map V.int)):=(by rw [aX n32];exact h37);have wlen:(ws'++kk.take i).length<=100:=by
         rw [aH,bu];omega
       refine ⟨tyL h38,tD h38 (eT (by rw [ai];omega)) (hI _ _ ⟨_,rfl,(s7.put n20 _).put n30 _,?_,?_,?_⟩)⟩
       . rw [aX n63,aX n62];exact e7
       . rw [aX n32.symm,ao]
       . rw [ao,et,<- bX,aA (l₁:=ws'++kk.take i)];rfl
     . rintro BB σ H7 hBB ⟨v6,rfl,s7,e7,h27,h37⟩;refine hBB _ _ ?_;rw [ai,bx] at h27 h37;refine hN _ _ _ ?_ ⟨_,_,_,_,_,rfl,rfl,s7,h27,h37,J2⟩;rw [aH,aH,aH];simp only [aL,fB];omega
def M0 (T:Txt K mg):Sp:=fun vs H Q E=>∃ (p t:Addr) (m:Int) (ps:List Addr) (rs:List Road) (r:Int),vs=[.ref p,.int r]/\WebAt T.Web H p m t ps rs /\
 (0<=r->r<m->∃ par dep,Rooted m rs r par dep/\∀ l H',H l=none->Same H H'->H' l=some (.lst ((oB m rs r par dep r).map V.int))->(oB m rs r par dep r).Nodup->(∀ v,v∈oB m rs r par dep r↔0<=v/\v<m)->Q (.ref l) H')/\(¬ (0<=r/\r<m)->E (.ref T.NoPlace) none H)
abbrev hV:Stmt:=top 26
theorem uY:FnScope ["web","r","nearer","places","waiting","place","kid"] ["web","r"] (ae hV):=FnScope.of (by kernel_rfl)
theorem Dm:NmL (ae hV) "web":=.of (by kernel_rfl)
theorem GY:NmL (ae hV) "r":=.of (by kernel_rfl)
theorem yx:NmL (ae hV) "nearer":=.of (by kernel_rfl)
theorem tq:NmL (ae hV) "places":=.of (by kernel_rfl)
theorem oH:NmL (ae hV) "waiting":=.of (by kernel_rfl)
theorem qT:NmL (ae hV) "place":=.of (by kernel_rfl)
theorem DL:NmL (ae hV) "kid":=.of (by kernel_rfl)
theorem AH:NmG (ae hV) "ahead":=.of (by kernel_rfl)
theorem D1:NmG (ae hV) "reversed":=.of (by kernel_rfl)
theorem BX:NmG (ae hV) "kids":=.of (by kernel_rfl)
theorem UB (T:Txt K mg) (hq:cR (CXe P w)) {f:Addr} {fd:FuncData} (D:Df K mg "down" hV ["web","r"] f fd) {nW:Addr} {vW:FuncData} (mz:Df K mg "ahead" f6 ["web","r"] nW vW) (uZ:FnOk P w K mg base (CXe P w) 5 nW vW ["web","r"] (DT T)) {qG:Addr} {yY:FuncData} (pE:Df K mg "kids" lz ["web","place","front"] qG yY) (yo:FnOk P w K mg base (CXe P w) 4 qG yY ["web","place","front"] (FJ T)):FnOk P w K mg base (CXe P w) 6 f fd ["web","r"] (M0 T):=by
 refine D.F.okX uY (fun vs H Q E h=>?_) (fun cdv A outer s H vs Q E hr h=>?_)
 . obtain ⟨p,t,m,ps,rs,r,rfl,_⟩:=h
   rfl
 . obtain ⟨p,t,m,ps,rs,r,rfl,W,k,e⟩:=h;have g:=W.go;have m24:=g.m24;refine ⟨_,(ay (bp (i:=2) uY.nd rfl (Or.inl yx.l) (aZ uZ (hr.mono (by decide)) AH.g mz.m mz.F.kp mz.b .nil gk (ah (pvl 0 Dm) (ah (pvl 1 GY) am)) (hdb:=AH.d))) (ay (bp (i:=3) uY.nd rfl (Or.inl tq.l) (gZ am)) (ay (bp (i:=4) uY.nd rfl (Or.inl oH.l) (gZ (ah (pvl 1 GY) am))) (ay (zW PassesOwn.leaving (Ex (pvl 4 oH) (fun _=>rfl)) (ay (bp (i:=5) uY.nd rfl (Or.inl qT.l) (Ku PySem.F.plainAttrs_list PySem.F.slot_list_pop PySem.F.type_list_pop Jf (pvl 4 oH))) (ay (eK (pP PySem.F.plainAttrs_list PySem.F.slot_list_append PySem.F.type_list_append fX (pvl 3 tq) (ah (pvl 5 qT) am))) (aM (hZ PassesOwn.leaving rfl (EW D1.g T.reversed (aZ yo (hr.mono (by decide)) BX.g pE.m pE.F.kp pE.b .nil gk (ah (pvl 0 Dm) (ah (pvl 5 qT) (ah (bI b6 (pvl 2 yx) (pvl 5 qT) (fun _ _=>rfl)) am))) (hdb:=BX.d))) (bJ (i:=6) uY.nd rfl (Or.inl DL.l)) (aM (eK (pP PySem.F.plainAttrs_list PySem.F.slot_list_append PySem.F.type_list_append fX (pvl 4 oH) (ah (pvl 6 DL) am))))))))) (aM (bR (pvl 3 tq))))))),?_⟩;rw [show L2.start ["web","r","nearer","places","waiting","place","kid"] [V.ref p,V.int r]=[some (V.ref p),some (V.int r),none,none,none,none,none] from rfl];walk_at "rd";refine ⟨p,t,m,ps,rs,r,rfl,W,fun r0 r1=>?_,e⟩;obtain ⟨par,dep,R,k⟩:=k r0 r1;refine ⟨par,dep,R,fun l1 H1 n1 s1 e1=>⟨by decide,fun l3 n3=>⟨cu (by simp),fun l4 n4=>?_⟩⟩⟩;have n30:H l3=none:=s1.free n3;have s3:=s1.trans (Same.new (.lst []) n3);have n40:H l4=none:=s3.free n4;have n13:l1≠l3:=fun z=>by rw [<- z,e1] at n3;cases n3
   have n34:l3≠l4:=fun z=>by rw [<- z,ao] at n4;cases n4
   have e13:=Same.new (.lst []) n3 _ _ e1;have n14:l1≠l4:=fun z=>by rw [<- z,e13] at n4;cases n4
   have s4:=s3.trans (Same.new (.lst [V.int r]) n4);have e14:=Same.new (.lst [V.int r]) n4 _ _ e13;have e34:upd (upd H1 l3 (.lst [])) l4 (.lst [V.int r]) l3=some (.lst []):=by rw [aX n34,ao]
   have e44:upd (upd H1 l3 (.lst [])) l4 (.lst [V.int r]) l4=some (.lst [V.int r]):=ao;generalize upd (upd H1 l3 (.lst [])) l4 (.lst [V.int r])=H4 at s4 e14 e34 e44 ⊢;refine MW (fun n σ H5=>∃ (ks ws pl:List Int) (v5 v6:Option V),n=2*(m.toNat - ks.length)+ws.length/\σ=[some (.ref p),some (.int r),some (.ref l1),some (.ref l3),some (.ref l4),v5,v6]/\Same H H5/\H5 l1=some (.lst (xN m r par))/\H5 l3=some (.lst (pl.map V.int))/\H5 l4=some (.lst (ws.map V.int))/\AInv m rs r par ks ws/\(pl++ws).Perm (r::ks)/\pl++ws.reverse.flatMap (oB m rs r par dep)=oB m rs r par dep r) (2*m.toNat+1) ⟨[],[r],[],_,_,rfl,rfl,s4,e14,e34,e44,AInv.start,List.Perm.refl _,by simp⟩ ?_;rintro n σ H5 NW BB hBB hN hN2 ⟨ks,ws,pl,v5,v6,rfl,rfl,s5,h1,h3,h4,J,pe,ep⟩;refine hBB _ _ _ ?_;have rk:∀ w∈r::ks,0<=w/\w<m:=fun w hw=>by
     rcases az.mp hw with rfl|z
     . exact ⟨r0,r1⟩
     . exact J.rng w z
   have nk:(r::ks).Nodup:=aE.mpr ⟨J.nr,J.nd⟩;have kl:=fZ (m:=m) (by omega) nk rk;have kl1:=fZ (m:=m) (by omega) J.nd J.rng;have pl1:=pe.length_eq;rw [aH] at pl1;rw [aL] at kl pl1;walk_at "rd";refine ⟨_,.inl ⟨_,SqL.of h4,rfl⟩,?_⟩;rcases iK ws with rfl|⟨ws',q,rfl⟩
   . rw [aa (by simp)];rw [List.reverse_nil,List.flatMap_nil,bC] at ep;rw [bC] at pe;subst ep;refine k l3 H5 n30 s5 h3 (pe.nodup_iff.mpr nk) fun v=>⟨fun z=>rk v (pe.mem_iff.mp z),fun z=>pe.mem_iff.mpr ?_⟩;by_cases c:v=r
     . rw [c];exact aw
     . exact ak _ (J.all R v z.1 z.2 c)
   . rw [iQ] at J h4 hN hN2 pe ep pl1 ⊢;rw [ag (by simp)];have hq:q∈ws'++[q]:=aN _ (aB.mpr rfl);have pr:=J.at_ r0 r1 hq;have J2:=J.step g R r0 r1 (p:=q) (ws':=ws') (jJ q ws');refine ⟨NW,fun σ' H' z=>?_,?_⟩
     . obtain ⟨m',lt,ks',ws'',pl',a5,a6,z1,z2⟩:=hN2 _ _ z;exact ⟨m',lt,ks',ws'',z1,pl',a5,a6,z2⟩
     rw [aA,aK,ff] at h4;refine ⟨tyL h4,Rj h4 ?_⟩;have s6:Same H (upd H5 l4 (.lst (ws'.map V.int))):=s5.put n40 _;have h36:upd H5 l4 (.lst (ws'.map V.int)) l3=some (.lst (pl.map V.int)):=(by rw [aX n34];exact h3);have h16:upd H5 l4 (.lst (ws'.map V.int)) l1=some (.lst (xN m r par)):=(by rw [aX n14];exact h1);have h46:upd H5 l4 (.lst (ws'.map V.int)) l4=some (.lst (ws'.map V.int)):=ao;generalize upd H5 l4 (.lst (ws'.map V.int))=H6 at s6 h36 h16 h46 ⊢;refine ⟨tyL h36,tD h36 (eT (by rw [ai];omega)) ?_⟩;have s7:Same H (upd H6 l3 (.lst (pl.map V.int++[V.int q]))):=s6.put n30 _;have h37:upd H6 l3 (.lst (pl.map V.int++[V.int q])) l3=some (.lst ((pl++[q]).map V.int)):=(by rw [ao,aA];rfl);have h17:upd H6 l3 (.lst (pl.map V.int++[V.int q])) l1=some (.lst (xN m r par)):=(by rw [aX n13];exact h16);have h47:upd H6 l3 (.lst (pl.map V.int++[V.int q])) l4=some (.lst (ws'.map V.int)):=(by rw [aX n34.symm];exact h46);generalize upd H6 l3 (.lst (pl.map V.int++[V.int q]))=H7 at s7 h37 h17 h47 ⊢;refine ixL h17 (Cz pr.1 (IB pr.1 pr.2)) ?_;have hfv:Pb.front r par q=.non\/∃ i,Pb.front r par q=.int i:=by
       unfold Pb.front;by_cases c:q=r
       . rw [ag c];exact .inl rfl
       . rw [aa c];exact .inr ⟨_,rfl⟩
     have pq:=Gx g R pr.1 pr.2;refine ⟨p,t,m,ps,rs,q,_,rfl,W.same s7,pr.1,pr.2,hfv,fun l8 H8 n8 s8 e8=>⟨l8,rfl,_,SqL.of e8,?_⟩⟩;generalize bA m rs (Pb.front r par q) q=kk at e8 J2 pq ⊢;have n81:l1≠l8:=fun z=>by rw [<- z,h17] at n8;cases n8
     have n83:l3≠l8:=fun z=>by rw [<- z,h37] at n8;cases n8
     have n84:l4≠l8:=fun z=>by rw [<- z,h47] at n8;cases n8
     have kl2:=fZ (m:=m) (by omega) J2.nd J2.rng;rw [aH] at kl2;have wl2:=fZ (m:=m) (by omega) J2.wnd fun w hw=>J2.at_ r0 r1 hw;rw [aH] at wl2;refine Ec (K:=K) (xs:=kk.map V.int) (fun i σ H9=>∃ v6,σ=[some (.ref p),some (.int r),some (.ref l1),some (.ref l3),some (.ref l4),some (.int q),v6]/\Same H H9/\H9 l8=some (.lst (kk.map V.int))/\H9 l1=some (.lst (xN m r par))/\H9 l3=some (.lst ((pl++[q]).map V.int))/\H9 l4=some (.lst ((ws'++kk.reverse.take i).map V.int))) ⟨_,rfl,s7.trans s8,e8,s8 _ _ h17,s8 _ _ h37,by rw [dJ,bC];exact s8 _ _ h47⟩ (fun i σ H9 _ z=>by obtain ⟨_,_,_,z,_⟩:=z;exact SqL.of z) ?_ ?_
     . rintro i x σ H9 NI hI hi ⟨v6,rfl,s9,e9,h19,h39,h49⟩;rw [<- List.map_reverse,aP] at hi;obtain ⟨v,hv,rfl⟩:=cM.mp hi;have et:kk.reverse.take (i+1)=kk.reverse.take i++[v]:=(by rw [b4,hv];rfl);have wlen:(ws'++kk.reverse.take i).length<=100:=by
         rw [aH,bu,be];omega
       walk_at "rd";refine ⟨tyL h49,tD h49 (eT (by rw [ai];omega)) (hI _ _ ⟨_,rfl,s9.put n40 _,?_,?_,?_,?_⟩)⟩
       . rw [aX n84.symm];exact e9
       . rw [aX n14];exact h19
       . rw [aX n34];exact h39
       . rw [ao,et,<- bX,aA (l₁:=ws'++kk.reverse.take i)];rfl
     . rintro σ H9 ⟨v6,rfl,s9,e9,h19,h39,h49⟩;rw [ai,show kk.length=kk.reverse.length by rw [be],bx] at h49;refine hN _ _ _ ?_ ⟨ks++kk,ws'++kk.reverse,pl++[q],_,_,rfl,rfl,s9,h19,h39,h49,J2.perm (mL _ kk.reverse_perm.symm),?_,?_⟩
       . rw [aH,aH,aH,be];simp only [aL,fB];omega
       . have p1:(pl++[q]++(ws'++kk.reverse)).Perm (pl++(ws'++[q])++kk):=by
           rw [bX,bX];refine mL _ ?_;rw [<- bX];exact List.Perm.append (List.perm_append_comm) kk.reverse_perm
         exact p1.trans (List.Perm.append_right _ pe)
       . rw [<- ep,jb,jb,mQ,List.reverse_singleton,List.singleton_append,dh,pq,oX];simp
/-- the places of a row with the ones ahead of them,from its end -/
def OQ (par:Int->Int) (v:Int):List V:=[.int v,.int (par v)]
abbrev PairsAt (H:Hp) (par:Int->Int):List Addr->List Int->Prop:=Paired fun q v=>H q=some (.tup (OQ par v))
theorem PairsAt.same {H H':Hp} {par:Int->Int} {qs:List Addr} {vs:List Int} (e:Same H H') (h:PairsAt H par qs vs):PairsAt H' par qs vs:=Paired.imp' (fun q v x=>e q _ x) h
theorem PairsAt.get {H:Hp} {par:Int->Int}:∀ {ps:List Addr} {rs:List Int} {i:Nat} {x:V},PairsAt H par ps rs->(ps.map V.ref)[i]?=some x->∃ p r,x=.ref p/\ps[i]?=some p/\rs[i]?=some r/\H p=some (.tup (OQ par r))
 | _,_,i,x,.nil,e=>by simp at e
 | _,_,0,x,.cons (a:=p) (b:=r) h hs,e=>⟨p,r,by simpa using e.symm,by simp,by simp,h⟩
 | a::l1,_,i+1,x,.cons h hs,e=>by
   have e':(List.map V.ref l1)[i]?=some x:=by simpa using e
   obtain ⟨p,r,h1,h2,h3,h4⟩:=PairsAt.get hs e';exact ⟨p,r,h1,by simpa using h2,by simpa using h3,h4⟩
theorem PairsAt.snoc {H:Hp} {par:Int->Int} {q:Addr} {v:Int} (e:H q=some (.tup (OQ par v))):∀ {qs:List Addr} {vs:List Int},PairsAt H par qs vs->PairsAt H par (qs++[q]) (vs++[v])
 | _,_,.nil=>.cons e .nil
 | _,_,.cons x xs=>.cons x (PairsAt.snoc e xs)
def wP (T:Txt K mg):Sp:=fun vs H Q E=>∃ (p t:Addr) (m:Int) (ps:List Addr) (rs:List Road) (r:Int),vs=[.ref p,.int r]/\WebAt T.Web H p m t ps rs /\
 (0<=r->r<m->∃ par dep,Rooted m rs r par dep/\∀ l qs tl H',oB m rs r par dep r=r::tl->H l=none->Same H H'->H' l=some (.lst (qs.map V.ref))->PairsAt H' par qs tl.reverse->Order m r par tl->Q (.ref l) H')/\(¬ (0<=r/\r<m)->E (.ref T.NoPlace) none H)
abbrev fC:Stmt:=top 28
theorem GV:FnScope ["web","r","nearer"] ["web","r"] (ae fC):=FnScope.of (by kernel_rfl)
theorem AK:NmL (ae fC) "web":=.of (by kernel_rfl)
theorem Dq:NmC (ae fC) "r":=.of (by kernel_rfl)
theorem Ea:NmC (ae fC) "nearer":=.of (by kernel_rfl)
theorem wO:NmG (ae fC) "ahead":=.of (by kernel_rfl)
theorem BP:NmG (ae fC) "reversed":=.of (by kernel_rfl)
theorem yK:NmG (ae fC) "down":=.of (by kernel_rfl)
theorem P8 (T:Txt K mg) (hq:cR (CXe P w)) {f:Addr} {fd:FuncData} (D:Df K mg "inward" fC ["web","r"] f fd) {nW:Addr} {vW:FuncData} (mz:Df K mg "ahead" f6 ["web","r"] nW vW) (uZ:FnOk P w K mg base (CXe P w) 5 nW vW ["web","r"] (DT T)) {wk:Addr} {MH:FuncData} (yM:Df K mg "down" hV ["web","r"] wk MH) (JM:FnOk P w K mg base (CXe P w) 6 wk MH ["web","r"] (M0 T)):FnOk P w K mg base (CXe P w) 7 f fd ["web","r"] (wP T):=by
 refine D.F.okX GV (fun vs H Q E h=>?_) (fun cdv A outer s H vs Q E hr h=>?_)
 . obtain ⟨p,t,m,ps,rs,r,rfl,_⟩:=h
   rfl
 . obtain ⟨p,t,m,ps,rs,r,rfl,W,k,e⟩:=h;have g:=W.go;have m24:=g.m24;refine ⟨_,(ay (bp (i:=2) GV.nd rfl (Or.inr Ea.l) (aZ uZ (hr.mono (by decide)) wO.g mz.m mz.F.kp mz.b .nil gk (ah (pvl 0 AK) (ah (pvc 1 Dq) am)) (hdb:=wO.d))) (aM (bR (pO rfl (tG (Nc:=["place","nearer","r"]) 1 [2,1] (by decide +kernel) rfl (by decide +kernel) rfl (by show ∀ (y:Str × NameKind),y∈_->y.2=NameKind.free->(ae fC).names.lookup y.1=some NameKind.cell;decide +kernel) rfl (fun _ h=>nC h) (fun i hi=>match i,hi with|0,_=>⟨"nearer",2,rfl,rfl,rfl,by decide +kernel⟩|1,_=>⟨"r",1,rfl,rfl,rfl,by decide +kernel⟩|i+2,hi=>absurd hi (by show ¬ i+2<2;omega))) (EW BP.g T.reversed (aZ JM (hr.mono (by decide)) yK.g yM.m yM.F.kp yM.b .nil gk (ah (pvl 0 AK) (ah (pvc 1 Dq) am)) (hdb:=yK.d))) (fun _ _ _ _=>(bJ (i:=0) (show (["place","nearer","r"]:List Str).Nodup from by decide +kernel) rfl (Or.inl rfl))) (fun _ _ _ _=>(MS (bW tV (pv 0) (pv 2) (bK _)))) (fun _ _ _ _=>(fJ (ah (pv 0) (ah (bI (Am K rfl) (pv 1) (pv 0) (fun _ _=>rfl)) am)))))))),?_⟩;rw [show L2.start ["web","r","nearer"] [V.ref p,V.int r]=[some (V.ref p),some (V.int r),none] from rfl];walk_at "rd";refine ex6 p t m ps rs r ?_;refine an4 rfl W (fun r0 r1=>?_) e;obtain ⟨par,dep,R,k⟩:=k r0 r1;refine ⟨par,dep,R,fun l1 H1 n1 s1 e1=>?_⟩;refine ex6 p t m ps rs r ?_;refine an4 rfl (W.same s1) (fun _ _=>⟨par,dep,R,fun l2 H2 n2 s2 e2 nd al=>?_⟩) (fun z=>absurd ⟨r0,r1⟩ z);obtain ⟨tl,et,O⟩:=Oo g R r0 r1 nd al;have ll:=zK g R r0 r1;rw [et] at e2 ll;rw [aL] at ll;refine ⟨l2,rfl,_,SqL.of e2,fun pc npc=>?_⟩;have e12:=s2 _ _ e1;have s12:=s1.trans s2;have npc0:=s12.free npc;refine SS (K:=K) (xs:=(r::tl).map V.int) (fun i zs σ H3=>Same H2 H3/\H3 pc=some (.lst zs)/\(∃ qs:List Addr,zs=qs.map V.ref/\PairsAt H3 par qs (tl.reverse.take i))/\∃ v,σ=[v,some (V.ref l1),some (V.int r)]) ⟨Same.new _ npc,ao,⟨[],rfl,.nil⟩,_,rfl⟩ (fun i zs σ H3 _ z=>SqL.of (z.1 _ _ e2)) ?_ ?_
   . rintro i x zs σ H3 N hN hx ⟨s3,e3,⟨qs,rfl,pa⟩,v,rfl⟩;rw [<- List.map_reverse,j9,aP] at hx;obtain ⟨y,gy,rfl⟩:=cM.mp hx;have il:=(aq.mp gy).1;rw [aH,be] at il;have ql:qs.length=(tl.reverse.take i).length:=Paired.length pa;rw [bu,be] at ql;walk_at "rd";by_cases c:i<tl.length
     . rw [dP (by rw [be];exact c)] at gy;have ym:y∈tl:=di.mp (a8 gy);have yr:=O.rng y ym;rw [ag (O.ne ym)];have gp:atI (xN m r par) y=some (V.int (par y)):=by
         have ef:Pb.front r par y=V.int (par y):=(by unfold Pb.front;rw [aa (O.ne ym)]);rw [<- ef];exact Cz yr.1 (IB yr.1 yr.2)
       refine ixL (s3 _ _ e12) gp ⟨cu (by simp),fun q nq=>?_⟩;have s4:=Same.new (.tup [V.int y,V.int (par y)]) nq;have nqp:q≠pc:=fun z=>by rw [z,e3] at nq;cases nq
       refine ⟨s4 _ _ e3,eT (by rw [ai];omega),hN _ _ _ ⟨(s3.trans s4).put npc _,ao,⟨qs++[q],by rw [aA];rfl,?_⟩,_,rfl⟩⟩;rw [b4,gy];refine PairsAt.snoc (by rw [aX nqp,ao];rfl) ?_;exact Paired.imp' (fun a b h=>by
         rw [aX (oW h e3 (by intro z;cases z)),aX (dw h nq)];exact h) pa
     . have ei:i=tl.reverse.length:=(by rw [be];simp at il;omega);rw [ei,dD (aI _),ke] at gy;cases gy;rw [aa (fun z=>z rfl)];refine hN _ _ _ ⟨s3,e3,⟨qs,rfl,?_⟩,_,rfl⟩;rw [lU (by omega)] at pa ⊢;exact pa
   . rintro zs σ H3 ⟨s3,e3,⟨qs,rfl,pa⟩,v,rfl⟩;rw [lU (by rw [ai,be,aL];omega)] at pa;exact k pc qs tl H3 et npc0 (s12.trans s3) e3 pa O
def bL (m:Int) (xs:List Int):Bool:=decide ((xs.length:Int)=m) && xs.all fun x=>decide (0<=x)
theorem Gr {m:Int} {xs:List Int} (h:(xs.length:Int)=m) (h0:∀ x∈xs,0<=x):bL m xs=true:=by
 unfold bL;rw [aW h,ku,dz];exact fun x hx=>aW (h0 x hx)
theorem pW {m:Int} {xs:List Int} (h:bL m xs=true):(xs.length:Int)=m:=by
 unfold bL at h;rw [bn] at h;exact bP h.1
theorem Wz {m:Int} {xs:List Int} (h:bL m xs=true):∀ x∈xs,0<=x:=by
 unfold bL at h;rw [bn,dz] at h;exact fun x hx=>bP (h.2 x hx)
def vR (T:Txt K mg):Sp:=fun vs H Q _=>∃ (p a t:Addr) (c:Bool) (m:Int) (ps:List Addr) (rs:List Road) (xs:List Int),vs=[.ref p,.ref a]/\WebAt T.Web H p m t ps rs/\SqX K c H a (xs.map V.int)/\xs.length<=1000/\∀ H',Same H H'->Q (.bl (bL m xs)) H'
abbrev eX:Stmt:=top 23
theorem Kn:FnScope ["web","numbers"] ["web","numbers"] (ae eX):=FnScope.of (by kernel_rfl)
theorem El:NmL (ae eX) "web":=.of (by kernel_rfl)
theorem su:NmL (ae eX) "numbers":=.of (by kernel_rfl)
theorem qV:NmG (ae eX) "len":=.of (by kernel_rfl)
theorem rf:NmG (ae eX) "all":=.of (by kernel_rfl)
theorem Ij (T:Txt K mg) (hq:cR (CXe P w)) {f:Addr} {fd:FuncData} (D:Df K mg "is_filled" eX ["web","numbers"] f fd):FnOk P w K mg base (CXe P w) 1 f fd ["web","numbers"] (vR T):=by
 refine D.F.okC Kn (fun vs H Q E h=>?_) (fun cdv A outer s H vs Q E hr h=>?_)
 . obtain ⟨p,a,t,c,m,ps,rs,xs,rfl,_⟩:=h
   rfl
 . obtain ⟨p,a,t,c,m,ps,rs,xs,rfl,W,ha,hz,k⟩:=h;refine ⟨_,(aM (bR (vX (i9 jB (c8 fE qV.g T.len mt (ah (pvl 1 su) am) (hn:=qV.n) (hdb:=qV.d)) (vd  (pvl 0 El) rfl) (bK _)) (yB (c8 (y7 rfl) rf.g T.all E7 (ah (pO rfl (vV (Nc:=["number"]) 1 (by decide +kernel) (by decide +kernel) rfl (by decide +kernel) rfl) (IK c (pvl 1 su)) (fun _ _ _ _=>(bJ (i:=0) (show (["number"]:List Str).Nodup from by decide +kernel) rfl (Or.inl rfl))) (fun _ _ _ _=>oq) (fun _ _ _ _=>(i9 CC (pv 0) aF (bK _)))) am) (hn:=rf.n) (hdb:=rf.d)))))),?_⟩;rw [show L2.start ["web","numbers"] [V.ref p,V.ref a]=[some (V.ref p),some (V.ref a)] from rfl];walk_at "rd";obtain ⟨dx,ob⟩:=W.ob;have ha':SqL K H a (xs.map V.int)\/SqT K H a (xs.map V.int):=by
     cases c
     . exact .inr ha
     . exact .inl ha
   refine ⟨_,ha',T.Web,dx,_,ob,T.si,T.n_many,_,uW m t,rfl,?_⟩;rw [ai];by_cases hm:(xs.length:Int)=m
   . rw [ag (by rw [hm])];refine ⟨⟨_,ha⟩,fun l nl=>?_⟩;refine tR (K:=K) (c:=c) (xs:=xs.map V.int) (fun i bs σ H2=>Same H H2/\H2 l=some (.lst bs)/\bs=((xs.take i).map fun x=>decide (0<=x)).map V.bl/\∃ v,σ=[v]) ⟨Same.new _ nl,ao,rfl,_,rfl⟩ (fun i bs σ H2 _ z=>Same.sqX z.1 ha) ?_ ?_
     . rintro i x bs σ H2 N hN hx ⟨s2,e2,rfl,v,rfl⟩;rw [aP] at hx;obtain ⟨y,gy,rfl⟩:=cM.mp hx;walk_at "rd";refine ⟨e2,eT (by rw [ai,ai,bu];omega),hN _ _ _ ⟨s2.put nl _,ao,?_,_,rfl⟩⟩;rw [b4,gy,aA,aA]
       rfl
     . rintro bs σ H2 ⟨s2,e2,rfl,v,rfl⟩;refine ⟨l,rfl,_,SqL.of e2,?_⟩;have e:(((xs.take (xs.map V.int).length).map fun x=>decide (0<=x)).all id)=bL m xs:=by
         rw [ai,bx,List.all_map];unfold bL;rw [aW hm,ku]
         rfl
       rw [e];exact k _ s2
   . rw [aa (fun z=>hm (by injection z))];have e:bL m xs=false:=by
       unfold bL;rw [bH hm,kj]
     rw [e] at k;exact k H (Same.refl _)
def Bm (T:Txt K mg):Sp:=fun vs H Q E=>∃ (p a t:Addr) (c:Bool) (m:Int) (ps:List Addr) (rs:List Road) (xs:List Int),vs=[.ref p,.ref a]/\WebAt T.Web H p m t ps rs/\SqX K c H a (xs.map V.int)/\xs.length<=1000 /\
 (bL m xs=true->∀ l H',Same H H'->(H' l=some (.tup (xs.map V.int))\/(c=false/\l=a))->SqT K H' l (xs.map V.int)->Q (.ref l) H')/\(bL m xs=false->∀ H',Same H H'->E (.ref T.BadLaying) none H')
abbrev eU:Stmt:=top 22
theorem IW:FnScope ["web","numbers"] ["web","numbers"] (ae eU):=FnScope.of (by kernel_rfl)
theorem DS:NmL (ae eU) "web":=.of (by kernel_rfl)
theorem sy:NmL (ae eU) "numbers":=.of (by kernel_rfl)
theorem qE:NmG (ae eU) "is_filled":=.of (by kernel_rfl)
theorem qQ:NmG (ae eU) "BadLaying":=.of (by kernel_rfl)
theorem pw:NmG (ae eU) "tuple":=.of (by kernel_rfl)
theorem K0 (T:Txt K mg) (hq:cR (CXe P w)) {f:Addr} {fd:FuncData} (D:Df K mg "laying_of" eU ["web","numbers"] f fd) {gO:Addr} {pD:FuncData} (gc:Df K mg "is_filled" eX ["web","numbers"] gO pD) (nY:FnOk P w K mg base (CXe P w) 1 gO pD ["web","numbers"] (vR T)):FnOk P w K mg base (CXe P w) 2 f fd ["web","numbers"] (Bm T):=by
 refine D.F.okX IW (fun vs H Q E h=>?_) (fun cdv A outer s H vs Q E hr h=>?_)
 . obtain ⟨p,a,t,c,m,ps,rs,xs,rfl,_⟩:=h
   rfl
 . obtain ⟨p,a,t,c,m,ps,rs,xs,rfl,W,ha,hz,k,e⟩:=h;refine ⟨_,(ay (dj (jo (jU (aZ nY (hr.mono (by decide)) qE.g gc.m gc.F.kp gc.b .nil gk (ah (pvl 0 DS) (ah (pvl 1 sy) am)) (hdb:=qE.d)))) (aM (zv T.Mw rfl Cu qQ.g T.Lw (ah qK am) (hdb:=qQ.d))) b5) (aM (bR (fK fN pw.g T.tuple ie (ah (pvl 1 sy) am) (hn:=pw.n) (hdb:=pw.d))))),?_⟩;rw [show L2.start ["web","numbers"] [V.ref p,V.ref a]=[some (V.ref p),some (V.ref a)] from rfl];walk_at "rd";refine ⟨p,a,t,c,m,ps,rs,xs,rfl,W,ha,hz,fun H1 s1=>⟨_,rfl,?_⟩⟩;by_cases z:bL m xs=false
   . rw [ag z];exact ⟨by decide,e z H1 s1⟩
   . rw [aa z];have z':bL m xs=true:=(by simpa using z);cases c
     . exact ⟨_,.inr ⟨Same.sqX (c:=false) s1 ha,k z' a H1 s1 (.inr ⟨rfl,rfl⟩) (Same.sqX (c:=false) s1 ha)⟩⟩
     . exact ⟨_,.inl ⟨Same.sqX (c:=true) s1 ha,fun l nl=>k z' l _ (s1.trans (Same.new _ nl)) (.inl ao) (SqT.of ao)⟩⟩
def Fx (T:Txt K mg):Sp:=fun vs H Q E=>∃ (p a t:Addr) (c:Bool) (m:Int) (ps:List Addr) (rs:List Road) (xs:List Int),vs=[.ref p,.ref a]/\WebAt T.Web H p m t ps rs/\SqX K c H a (xs.map V.int)/\xs.length<=1000 /\
 (bL m xs=true->∀ l H',Same H H'->SqT K H' l (xs.map V.int)->Q (.ref l) H')/\(bL m xs=false->∀ H',Same H H'->E (.ref T.BadWish) none H')
abbrev gH:Stmt:=top 30
theorem N9:FnScope ["web","numbers"] ["web","numbers"] (ae gH):=FnScope.of (by kernel_rfl)
theorem FM:NmL (ae gH) "web":=.of (by kernel_rfl)
theorem tZ:NmL (ae gH) "numbers":=.of (by kernel_rfl)
theorem rX:NmG (ae gH) "is_filled":=.of (by kernel_rfl)
theorem t5:NmG (ae gH) "BadWish":=.of (by kernel_rfl)
theorem qU:NmG (ae gH) "tuple":=.of (by kernel_rfl)
theorem O7 (T:Txt K mg) (hq:cR (CXe P w)) {f:Addr} {fd:FuncData} (D:Df K mg "wish_of" gH ["web","numbers"] f fd) {gO:Addr} {pD:FuncData} (gc:Df K mg "is_filled" eX ["web","numbers"] gO pD) (nY:FnOk P w K mg base (CXe P w) 1 gO pD ["web","numbers"] (vR T)):FnOk P w K mg base (CXe P w) 2 f fd ["web","numbers"] (Fx T):=by
 refine D.F.okX N9 (fun vs H Q E h=>?_) (fun cdv A outer s H vs Q E hr h=>?_)
 . obtain ⟨p,a,t,c,m,ps,rs,xs,rfl,_⟩:=h
   rfl
 . obtain ⟨p,a,t,c,m,ps,rs,xs,rfl,W,ha,hz,k,e⟩:=h;refine ⟨_,(ay (dj (jo (jU (aZ nY (hr.mono (by decide)) rX.g gc.m gc.F.kp gc.b .nil gk (ah (pvl 0 FM) (ah (pvl 1 tZ) am)) (hdb:=rX.d)))) (aM (zv T.Qx rfl Cu t5.g T.Qo (ah qK am) (hdb:=t5.d))) b5) (aM (bR (fK fN qU.g T.tuple ie (ah (pvl 1 tZ) am) (hn:=qU.n) (hdb:=qU.d))))),?_⟩;rw [show L2.start ["web","numbers"] [V.ref p,V.ref a]=[some (V.ref p),some (V.ref a)] from rfl];walk_at "rd";refine ⟨p,a,t,c,m,ps,rs,xs,rfl,W,ha,hz,fun H1 s1=>⟨_,rfl,?_⟩⟩;by_cases z:bL m xs=false
   . rw [ag z];exact ⟨by decide,e z H1 s1⟩
   . rw [aa z];have z':bL m xs=true:=(by simpa using z);cases c
     . exact ⟨_,.inr ⟨Same.sqX (c:=false) s1 ha,k z' a H1 s1 (Same.sqX (c:=false) s1 ha)⟩⟩
     . exact ⟨_,.inl ⟨Same.sqX (c:=true) s1 ha,fun l nl=>k z' l _ (s1.trans (Same.new _ nl)) (SqT.of ao)⟩⟩
def rR (T:Txt K mg):Sp:=fun vs H Q E=>∃ (p a b t:Addr) (c d:Bool) (m:Int) (ps:List Addr) (rs:List Road) (xs ys:List Int) (r:Int),vs=[.ref p,.ref a,.ref b,.int r]/\WebAt T.Web H p m t ps rs/\SqX K c H a (xs.map V.int)/\xs.length<=1000/\SqX K d H b (ys.map V.int)/\ys.length<=1000 /\
 (bL m xs=true->bL m ys=true->0<=r->r<m->∃ par dep,Rooted m rs r par dep/\∀ l H',H l=none->Same H H'->H' l=some (.lst ((oE m rs r par dep (fun v=>(cx m xs ys).getD v.toNat 0) (hnd rs par)).map V.int))->Q (.ref l) H') /\
 (bL m xs=false->∀ H',Same H H'->E (.ref T.BadLaying) none H')/\(bL m xs=true->bL m ys=false->∀ H',Same H H'->E (.ref T.BadWish) none H')/\(bL m xs=true->bL m ys=true->¬ (0<=r/\r<m)->∀ H',Same H H'->E (.ref T.NoPlace) none H')
abbrev bT:Stmt:=top 31
theorem mf:FnScope ["web","laying","wish","r","has","wanted","over","place","front"] ["web","laying","wish","r"] (ae bT):=FnScope.of (by kernel_rfl)
theorem jZ:NmL (ae bT) "web":=.of (by kernel_rfl)
theorem AW:NmL (ae bT) "laying":=.of (by kernel_rfl)
theorem CO:NmL (ae bT) "wish":=.of (by kernel_rfl)
theorem FU:NmL (ae bT) "r":=.of (by kernel_rfl)
theorem D6:NmC (ae bT) "has":=.of (by kernel_rfl)
theorem AR:NmC (ae bT) "wanted":=.of (by kernel_rfl)
theorem l7:NmL (ae bT) "over":=.of (by kernel_rfl)
theorem o7:NmL (ae bT) "place":=.of (by kernel_rfl)
theorem pK:NmL (ae bT) "front":=.of (by kernel_rfl)
theorem qH:NmG (ae bT) "laying_of":=.of (by kernel_rfl)
theorem r9:NmG (ae bT) "wish_of":=.of (by kernel_rfl)
theorem B1:NmG (ae bT) "range":=.of (by kernel_rfl)
theorem sR:NmG (ae bT) "inward":=.of (by kernel_rfl)
theorem qJ:NmG (ae bT) "handed_on":=.of (by kernel_rfl)
theorem IZ (T:Txt K mg) (hq:cR (CXe P w)) {f:Addr} {fd:FuncData} (D:Df K mg "standings" bT ["web","laying","wish","r"] f fd) {gP:Addr} {py:FuncData} (gg:Df K mg "handed_on" eD ["web","over","place","front"] gP py) (om:FnOk P w K mg base (CXe P w) 4 gP py ["web","over","place","front"] (vI T)) {ik:Addr} {mP:FuncData} (fV:Df K mg "inward" fC ["web","r"] ik mP) (mV:FnOk P w K mg base (CXe P w) 7 ik mP ["web","r"] (wP T)) {lJ:Addr} {BR:FuncData} (nU:Df K mg "laying_of" eU ["web","numbers"] lJ BR) (xw:FnOk P w K mg base (CXe P w) 2 lJ BR ["web","numbers"] (Bm T)) {o6:Addr} {Fh:FuncData} (rz:Df K mg "wish_of" gH ["web","numbers"] o6 Fh) (BU:FnOk P w K mg base (CXe P w) 2 o6 Fh ["web","numbers"] (Fx T)):FnOk P w K mg base (CXe P w) 8 f fd ["web","laying","wish","r"] (rR T):=by
 refine D.F.okX mf (fun vs H Q E h=>?_) (fun cdv A outer s H vs Q E hr h=>?_)
 . obtain ⟨p,a,b,t,c,d,m,ps,rs,xs,ys,r,rfl,_⟩:=h
   rfl
 . obtain ⟨p,a,b,t,c,d,m,ps,rs,xs,ys,r,rfl,W,ha,hz,hb,hy,k,e1,e2,e3⟩:=h;have g:=W.go;have m1:=g.m1;have m24:=g.m24;refine ⟨_,(ay (bp (i:=4) mf.nd rfl (Or.inr D6.l) (aZ xw (hr.mono (by decide)) qH.g nU.m nU.F.kp nU.b .nil gk (ah (pvl 0 jZ) (ah (pvl 1 AW) am)) (hdb:=qH.d))) (ay (bp (i:=5) mf.nd rfl (Or.inr AR.l) (aZ BU (hr.mono (by decide)) r9.g rz.m rz.F.kp rz.b .nil gk (ah (pvl 0 jZ) (ah (pvl 2 CO) am)) (hdb:=r9.d))) (ay (Aa (i:=6) mf.nd rfl l7.l rfl (tG (Nc:=["place","has","wanted"]) 1 [4,5] (by decide +kernel) rfl (by decide +kernel) rfl (by show ∀ (y:Str × NameKind),y∈_->y.2=NameKind.free->(ae bT).names.lookup y.1=some NameKind.cell;decide +kernel) rfl (fun _ h=>nC h) (fun i hi=>match i,hi with|0,_=>⟨"has",4,rfl,rfl,rfl,by decide +kernel⟩|1,_=>⟨"wanted",5,rfl,rfl,rfl,by decide +kernel⟩|i+2,hi=>absurd hi (by show ¬ i+2<2;omega))) (rF B1.g T.range (ah (vd  (pvl 0 jZ) rfl) am)) (fun _ _ _ _=>(bJ (i:=0) (show (["place","has","wanted"]:List Str).Nodup from by decide +kernel) rfl (Or.inl rfl))) (fun _ _ _ _=>oq) (fun _ _ _ _=>(bd qN (bI (MZ K rfl) (pv 1) (pv 0) (fun _ _=>rfl)) (bI (MZ K rfl) (pv 2) (pv 0) (fun _ _=>rfl))))) (ay (hZ PassesOwn.leaving rfl (p7 (aZ mV (hr.mono (by decide)) sR.g fV.m fV.F.kp fV.b .nil gk (ah (pvl 0 jZ) (ah (pvl 3 FU) am)) (hdb:=sR.d))) (sg (n:=2) rfl (dE (bJ (i:=7) mf.nd rfl (Or.inl o7.l)) (dE (bJ (i:=8) mf.nd rfl (Or.inl pK.l)) qe))) (aM (U1 (pvl 6 l7) (pvl 8 pK) Tu (aZ om (hr.mono (by decide)) qJ.g gg.m gg.F.kp gg.b .nil gk (ah (pvl 0 jZ) (ah (bI b6 (pvl 6 l7) (pvl 7 o7) (fun _ _=>rfl)) (ah (pvl 7 o7) (ah (pvl 8 pK) am)))) (hdb:=qJ.d)) Vt lQ))) (aM (bR (pvl 6 l7))))))),?_⟩;rw [show L2.start ["web","laying","wish","r","has","wanted","over","place","front"] [V.ref p,V.ref a,V.ref b,V.int r]=[some (V.ref p),some (V.ref a),some (V.ref b),some (V.int r),none,none,none,none,none] from rfl];walk_at "rd";refine ⟨p,a,t,c,m,ps,rs,xs,rfl,W,ha,hz,fun fi la H1 s1 _ ea=>?_,e1⟩;refine ⟨p,b,t,d,m,ps,rs,ys,rfl,W.same s1,Same.sqX s1 hb,hy,fun fj lb H2 s2 eb=>?_,fun fj H2 s2=>e2 fi fj H2 (s1.trans s2)⟩;have lens:∀ {zs:List Int},bL m zs=true->(zs.length:Int)=m:=fun {zs} f=>by
     unfold bL at f;rw [bn] at f;exact bP f.1
   have xl:=lens fi;have yl:=lens fj;have s12:=s1.trans s2;have W2:=W.same s12;obtain ⟨dx,ob⟩:=W2.ob;refine ⟨T.Web,dx,_,ob,T.si,T.n_many,_,uW m t,m,rfl,by omega,by omega,fun lo no=>?_⟩;have ea2:=Same.tup s2 ea;refine sH (fun i zs σ H3=>Same H2 H3/\H3 lo=some (.lst zs)/\zs=((List.range i).map fun i=>xs.getD i 0 - ys.getD i 0).map V.int/\∃ v,σ=[v,some (V.ref la),some (V.ref lb)]) ⟨Same.new _ no,ao,rfl,_,rfl⟩ ?_ ?_
   . rintro i zs σ H3 N hN hi ⟨s3,e3',rfl,v,rfl⟩;rw [gD];have i0:(0:Int)<=(i:Int):=(by omega);have ga:=atG (xs:=xs) i0 (by omega);have gb:=atG (xs:=ys) i0 (by omega);rw [dR] at ga gb;walk_at "rd";refine Vv (Same.tup s3 ea2) ga (Vv (Same.tup s3 eb) gb ⟨_,rfl,_,rfl,e3',eT (by simp;omega),hN _ _ _ ⟨s3.put no _,ao,?_,_,rfl⟩⟩);rw [iG,aA,aA]
     rfl
   . rintro zs σ H3 ⟨s3,e3',rfl,v,rfl⟩;have no0:=s12.free no;have s13:=s12.trans s3;have ol:=G3 (m:=m) (by omega) xs ys;change H3 lo=some (.lst ((cx m xs ys).map V.int)) at e3';refine ⟨p,t,m,ps,rs,r,rfl,W.same s13,fun r0 r1=>?_,fun z=>e3 fi fj z H3 s13⟩;obtain ⟨par,dep,R,k⟩:=k fi fj r0 r1;refine ⟨par,dep,R,fun l2 qs tl H4 _ n2 s4 e4 pa O=>?_⟩;have nll:l2≠lo:=fun z=>by rw [z,e3'] at n2;cases n2
     refine ⟨l2,rfl,⟨_,SqL.of e4⟩,?_⟩;have ql:qs.length=tl.reverse.length:=Paired.length pa;refine wZ (K:=K) (xs:=qs.map V.ref) (fun i σ H5=>Same H H5/\H5 l2=some (.lst (qs.map V.ref))/\PairsAt H5 par qs tl.reverse/\∃ (cs:List Int) (v4 v5:Option V),H5 lo=some (.lst (cs.map V.int))/\Sofar m rs r par dep (fun v=>(cx m xs ys).getD v.toNat 0) (hnd rs par) (tl.drop (tl.length - i)) cs/\σ=[some (V.ref p),some (V.ref a),some (V.ref b),some (V.int r),some (V.ref la),some (V.ref lb),some (V.ref lo),v4,v5]) ⟨s13.trans s4,e4,pa,cx m xs ys,_,_,s4 _ _ e3',by rw [Nat.sub_zero,lH];exact Sofar.nil ol,rfl⟩ (fun i σ H5 _ z=>SqL.of z.2.1) ?_ ?_
     . rintro i x σ H5 N hN hx ⟨s5,e5,pa5,cs,v4,v5,c5,so,rfl⟩;obtain ⟨q,v,rfl,hq,hv,eq⟩:=pa5.get hx;obtain ⟨⟨vr,vn⟩,ev,so'⟩:=O.turn g R so hv;have u:=R.up v vr.1 vr.2 vn;obtain ⟨kk,hk,k0,k1⟩:=CI g R vr.1 vr.2 vn;obtain ⟨kd,hd,d0,d1⟩:=CF g R vr.1 vr.2 vn;have cl:=so.len;walk_at "rd";refine ⟨_,SqT.of eq,rfl,_,_,rfl,_,_,rfl,rfl,?_⟩;refine ixL c5 (atG u.1.1 (by omega)) (ixL c5 (atG vr.1 (by omega)) ?_);refine ⟨p,t,m,ps,rs,_,v,par v,kk,kd,rfl,W.same s5,vr,u.1,hk,hd,⟨k0,k1⟩,⟨d0,d1⟩,?_⟩;refine ⟨_,rfl,_,rfl,BM c5 u.1.1 (by rw [ai];omega) (hN _ _ ⟨s5.put no0 _,?_,?_,zT par (hnd rs par) cs v,_,_,?_,so',rfl⟩)⟩
       . rw [aX nll];exact e5
       . exact Paired.imp' (fun a b h=>by rw [aX (oW h c5 (by intro z;cases z))];exact h) pa5
       . rw [ao,<- d8];unfold zT hnd;rw [hk,hd]
         rfl
     . rintro σ H5 ⟨s5,e5,pa5,cs,v4,v5,c5,so,rfl⟩;rw [ai,ql,be,ke,mY] at so;rw [O.done g R so] at c5;walk_at "rd";exact k lo H5 no0 s5 c5
def ye (T:Txt K mg):Sp:=fun vs H Q E=>∃ (p a b t:Addr) (c d:Bool) (m:Int) (ps:List Addr) (rs:List Road) (xs ys:List Int) (r:Int),vs=[.ref p,.ref a,.ref b,.int r]/\WebAt T.Web H p m t ps rs/\SqX K c H a (xs.map V.int)/\xs.length<=1000/\SqX K d H b (ys.map V.int)/\ys.length<=1000 /\
 (bL m xs=true->bL m ys=true->0<=r->r<m->∃ par dep,Rooted m rs r par dep/\∀ H',Same H H'->Q (.int (gat m rs r par dep (fun v=>(cx m xs ys).getD v.toNat 0) (hnd rs par) r)) H') /\
 (bL m xs=false->∀ H',Same H H'->E (.ref T.BadLaying) none H')/\(bL m xs=true->bL m ys=false->∀ H',Same H H'->E (.ref T.BadWish) none H')/\(bL m xs=true->bL m ys=true->¬ (0<=r/\r<m)->∀ H',Same H H'->E (.ref T.NoPlace) none H')
abbrev fg:Stmt:=top 33
theorem Lr:FnScope ["web","laying","wish","r"] ["web","laying","wish","r"] (ae fg):=FnScope.of (by kernel_rfl)
theorem FF:NmL (ae fg) "web":=.of (by kernel_rfl)
theorem BA:NmL (ae fg) "laying":=.of (by kernel_rfl)
theorem D5:NmL (ae fg) "wish":=.of (by kernel_rfl)
theorem AD:NmL (ae fg) "r":=.of (by kernel_rfl)
theorem rC:NmG (ae fg) "standings":=.of (by kernel_rfl)
theorem Mr (T:Txt K mg) (hq:cR (CXe P w)) {f:Addr} {fd:FuncData} (D:Df K mg "standing" fg ["web","laying","wish","r"] f fd) {eW:Addr} {iL:FuncData} (dL:Df K mg "standings" bT ["web","laying","wish","r"] eW iL) (iu:FnOk P w K mg base (CXe P w) 8 eW iL ["web","laying","wish","r"] (rR T)):FnOk P w K mg base (CXe P w) 9 f fd ["web","laying","wish","r"] (ye T):=by
 refine D.F.okX Lr (fun vs H Q E h=>?_) (fun cdv A outer s H vs Q E hr h=>?_)
 . obtain ⟨p,a,b,t,c,d,m,ps,rs,xs,ys,r,rfl,_⟩:=h
   rfl
 . obtain ⟨p,a,b,t,c,d,m,ps,rs,xs,ys,r,rfl,W,ha,hz,hb,hy,k,e1,e2,e3⟩:=h;refine ⟨_,(aM (bR (bI b6 (aZ iu (hr.mono (by decide)) rC.g dL.m dL.F.kp dL.b .nil gk (ah (pvl 0 FF) (ah (pvl 1 BA) (ah (pvl 2 D5) (ah (pvl 3 AD) am)))) (hdb:=rC.d)) (pvl 3 AD) (fun _ _=>rfl)))),?_⟩;rw [show L2.start ["web","laying","wish","r"] [V.ref p,V.ref a,V.ref b,V.int r]=[some (V.ref p),some (V.ref a),some (V.ref b),some (V.int r)] from rfl];walk_at "rd";refine ⟨p,a,b,t,c,d,m,ps,rs,xs,ys,r,rfl,W,ha,hz,hb,hy,fun fi fj r0 r1=>?_,e1,e2,e3⟩;obtain ⟨par,dep,R,k⟩:=k fi fj r0 r1;refine ⟨par,dep,R,fun l H1 n1 s1 e1=>?_⟩;refine ixL e1 (atG r0 ?_) ?_
   . unfold oE;rw [ai,dq];omega
   . rw [z8 r0 r1];exact k H1 s1
def wV (T:Txt K mg):Sp:=fun vs H Q E=>∃ (p a b t:Addr) (c d:Bool) (m:Int) (ps:List Addr) (rs:List Road) (xs ys:List Int),vs=[.ref p,.ref a,.ref b]/\WebAt T.Web H p m t ps rs/\SqX K c H a (xs.map V.int)/\xs.length<=1000/\SqX K d H b (ys.map V.int)/\ys.length<=1000 /\
 (bL m xs=true->bL m ys=true->∃ par dep,Rooted m rs 0 par dep/\∀ H',Same H H'->Q (.bl (decide (0<=gat m rs 0 par dep (fun v=>(cx m xs ys).getD v.toNat 0) (hnd rs par) 0))) H') /\
 (bL m xs=false->∀ H',Same H H'->E (.ref T.BadLaying) none H')/\(bL m xs=true->bL m ys=false->∀ H',Same H H'->E (.ref T.BadWish) none H')
abbrev gU:Stmt:=top 34
theorem QL:FnScope ["web","laying","wish"] ["web","laying","wish"] (ae gU):=FnScope.of (by kernel_rfl)
theorem Hl:NmL (ae gU) "web":=.of (by kernel_rfl)
theorem Eg:NmL (ae gU) "laying":=.of (by kernel_rfl)
theorem Gm:NmL (ae gU) "wish":=.of (by kernel_rfl)
theorem uc:NmG (ae gU) "standing":=.of (by kernel_rfl)
theorem PB (T:Txt K mg) (hq:cR (CXe P w)) {f:Addr} {fd:FuncData} (D:Df K mg "is_met" gU ["web","laying","wish"] f fd) {iA:Addr} {qI:FuncData} (gS:Df K mg "standing" fg ["web","laying","wish","r"] iA qI) (pR:FnOk P w K mg base (CXe P w) 9 iA qI ["web","laying","wish","r"] (ye T)):FnOk P w K mg base (CXe P w) 10 f fd ["web","laying","wish"] (wV T):=by
 refine D.F.okX QL (fun vs H Q E h=>?_) (fun cdv A outer s H vs Q E hr h=>?_)
 . obtain ⟨p,a,b,t,c,d,m,ps,rs,xs,ys,rfl,_⟩:=h
   rfl
 . obtain ⟨p,a,b,t,c,d,m,ps,rs,xs,ys,rfl,W,ha,hz,hb,hy,k,e1,e2⟩:=h;have m1:=W.go.m1;refine ⟨_,(aM (bR (i9 CC (aZ pR (hr.mono (by decide)) uc.g gS.m gS.F.kp gS.b .nil gk (ah (pvl 0 Hl) (ah (pvl 1 Eg) (ah (pvl 2 Gm) (ah aF am)))) (hdb:=uc.d)) aF (bK _)))),?_⟩;rw [show L2.start ["web","laying","wish"] [V.ref p,V.ref a,V.ref b]=[some (V.ref p),some (V.ref a),some (V.ref b)] from rfl];walk_at "rd";refine ⟨p,a,b,t,c,d,m,ps,rs,xs,ys,0,rfl,W,ha,hz,hb,hy,fun fi fj _ _=>?_,e1,e2,fun _ _ z=>absurd ⟨bh _,by omega⟩ z⟩;obtain ⟨par,dep,R,k⟩:=k fi fj;exact ⟨par,dep,R,fun H' s'=>⟨_,rfl,k H' s'⟩⟩
theorem GI {m:Int} {rs:List Road} {PAR:Int->Int->Int} {DEP:Int->Int->Nat} {xs ys:List Int} {i:Nat}:rZ m rs PAR DEP xs ys (i+1)=rZ m rs PAR DEP xs ys i++[gat m rs i (PAR i) (DEP i) (fun v=>(cx m xs ys).getD v.toNat 0) (hnd rs (PAR i)) i]:=by
 unfold rZ;rw [Ae,aA]
 rfl
def DH (T:Txt K mg):Sp:=fun vs H Q _=>∃ (p a b t:Addr) (c d:Bool) (m:Int) (ps:List Addr) (rs:List Road) (xs ys:List Int) (PAR:Int->Int->Int) (DEP:Int->Int->Nat),vs=[.ref p,.ref a,.ref b]/\WebAt T.Web H p m t ps rs/\SqX K c H a (xs.map V.int)/\bL m xs=true/\SqX K d H b (ys.map V.int)/\bL m ys=true/\(∀ r,0<=r->r<m->Rooted m rs r (PAR r) (DEP r)) /\
 ∀ l H',H l=none->Same H H'->H' l=some (.tup (((rZ m rs PAR DEP xs ys m.toNat).map fun x=>-x).map V.int))->Q (.ref l) H'
abbrev fu:Stmt:=top 38
theorem L4:FnScope ["web","laying","wish"] ["web","laying","wish"] (ae fu):=FnScope.of (by kernel_rfl)
theorem ET:NmC (ae fu) "web":=.of (by kernel_rfl)
theorem Px:NmC (ae fu) "laying":=.of (by kernel_rfl)
theorem Rl:NmC (ae fu) "wish":=.of (by kernel_rfl)
theorem qy:NmG (ae fu) "tuple":=.of (by kernel_rfl)
theorem CL:NmG (ae fu) "range":=.of (by kernel_rfl)
theorem Lg (T:Txt K mg) (hq:cR (CXe P w)) {f:Addr} {fd:FuncData} (D:Df K mg "lacks_of" fu ["web","laying","wish"] f fd) {iA:Addr} {qI:FuncData} (gS:Df K mg "standing" fg ["web","laying","wish","r"] iA qI) (pR:FnOk P w K mg base (CXe P w) 9 iA qI ["web","laying","wish","r"] (ye T)):FnOk P w K mg base (CXe P w) 10 f fd ["web","laying","wish"] (DH T):=by
 refine D.F.okC L4 (fun vs H Q E h=>?_) (fun cdv A outer s H vs Q E hr h=>?_)
 . obtain ⟨p,a,b,t,c,d,m,ps,rs,xs,ys,PAR,DEP,rfl,_⟩:=h
   rfl
 . obtain ⟨p,a,b,t,c,d,m,ps,rs,xs,ys,PAR,DEP,rfl,W,ha,fx,hb,fy,RR,k⟩:=h;have g:=W.go;have m24:=g.m24;have m1:=g.m1;have xl:=pW fx;have yl:=pW fy;obtain ⟨dx,ob⟩:=W.ob;refine ⟨_,(aM (bR (fK fN qy.g T.tuple ie (ah (pO rfl (tG (Nc:=["r","web","laying","wish"]) 1 [0,1,2] (by decide +kernel) rfl (by decide +kernel) rfl (by show ∀ (y:Str × NameKind),y∈_->y.2=NameKind.free->(ae fu).names.lookup y.1=some NameKind.cell;decide +kernel) rfl (fun _ h=>nC h) (fun i hi=>match i,hi with|0,_=>⟨"web",0,rfl,rfl,rfl,by decide +kernel⟩|1,_=>⟨"laying",1,rfl,rfl,rfl,by decide +kernel⟩|2,_=>⟨"wish",2,rfl,rfl,rfl,by decide +kernel⟩|i+3,hi=>absurd hi (by show ¬ i+3<3;omega))) (rF CL.g T.range (ah (vd  (pvc 0 ET) rfl) am)) (fun _ _ _ _=>(bJ (i:=0) (show (["r","web","laying","wish"]:List Str).Nodup from by decide +kernel) rfl (Or.inl rfl))) (fun _ _ _ _=>oq) (fun _ _ _ _=>(TM Qr (aZ pR (hr.mono (by decide)) (by rfl) gS.m gS.F.kp gS.b .nil (cI hq) (ah (pv 1) (ah (pv 2) (ah (pv 3) (ah (pv 0) am)))))))) am) (hn:=qy.n) (hdb:=qy.d)))),?_⟩;rw [show L2.start ["web","laying","wish"] [V.ref p,V.ref a,V.ref b]=[some (V.ref p),some (V.ref a),some (V.ref b)] from rfl];walk_at "rd";refine ⟨T.Web,dx,_,ob,T.si,T.n_many,_,uW m t,m,rfl,by omega,by omega,fun pc nc=>?_⟩;refine sH (fun i zs σ H3=>Same H H3/\H3 pc=some (.lst zs)/\zs=((rZ m rs PAR DEP xs ys i).map fun x=>-x).map V.int/\∃ v,σ=[v,some (V.ref p),some (V.ref a),some (V.ref b)]) ⟨Same.new _ nc,ao,rfl,_,rfl⟩ ?_ ?_
   . rintro i zs σ H3 N hN hi ⟨s3,e3,rfl,v,rfl⟩;rw [gD];have i0:(0:Int)<=(i:Int):=(by omega);have i1:(i:Int)<m:=(by omega);walk_at "rd";refine ⟨p,a,b,t,c,d,m,ps,rs,xs,ys,(i:Int),rfl,W.same s3,Same.sqX s3 ha,by omega,Same.sqX s3 hb,by omega,fun _ _ _ _=>⟨PAR i,DEP i,RR i i0 i1,fun H4 s4=>?_⟩,(fun z=>by rw [fx] at z;cases z),(fun _ z=>by rw [fy] at z;cases z),fun _ _ z=>absurd ⟨i0,i1⟩ z⟩;refine ⟨_,rfl,s4 _ _ e3,eT (by rw [ai,ai,En];omega),hN _ _ _ ⟨(s3.trans s4).put nc _,ao,?_,_,rfl⟩⟩;rw [GI,aA,aA]
     rfl
   . rintro zs σ H3 ⟨s3,e3,rfl,v,rfl⟩;refine ⟨pc,rfl,_,.inl ⟨SqL.of e3,fun l nl=>?_⟩⟩;exact k l _ (s3.free nl) (s3.trans (Same.new _ nl)) ao
def Dl (T:Txt K mg):Sp:=fun vs H Q _=>∃ (p a b t:Addr) (c d:Bool) (m:Int) (ps:List Addr) (rs:List Road) (xs ys:List Int) (r:Int) (par:Int->Int) (dep:Int->Nat),vs=[.ref p,.ref a,.ref b,.int r]/\WebAt T.Web H p m t ps rs/\SqX K c H a (xs.map V.int)/\bL m xs=true/\SqX K d H b (ys.map V.int)/\bL m ys=true/\(0<=r/\r<m)/\Rooted m rs r par dep /\
 ∀ l qs tl H',oB m rs r par dep r=r::tl->H l=none->Same H H'->H' l=some (.lst (qs.map V.ref))->StepsAt H' qs (fU rs par (stg m rs r par dep ys xs) tl.reverse)->Order m r par tl->Q (.ref l) H'
abbrev dg:Stmt:=top 36
theorem oi:FnScope ["web","laying","wish","r","over","steps","place","front","times"] ["web","laying","wish","r"] (ae dg):=FnScope.of (by kernel_rfl)
theorem sk:NmL (ae dg) "web":=.of (by kernel_rfl)
theorem BL:NmL (ae dg) "laying":=.of (by kernel_rfl)
theorem D2:NmL (ae dg) "wish":=.of (by kernel_rfl)
theorem Ap:NmL (ae dg) "r":=.of (by kernel_rfl)
theorem wg:NmL (ae dg) "over":=.of (by kernel_rfl)
theorem qr:NmL (ae dg) "steps":=.of (by kernel_rfl)
theorem me:NmL (ae dg) "place":=.of (by kernel_rfl)
theorem qz:NmL (ae dg) "front":=.of (by kernel_rfl)
theorem qv:NmL (ae dg) "times":=.of (by kernel_rfl)
theorem rq:NmG (ae dg) "standings":=.of (by kernel_rfl)
theorem ua:NmG (ae dg) "inward":=.of (by kernel_rfl)
theorem rG:NmG (ae dg) "handed_on":=.of (by kernel_rfl)
theorem LO (T:Txt K mg) (hq:cR (CXe P w)) {f:Addr} {fd:FuncData} (D:Df K mg "steps_in" dg ["web","laying","wish","r"] f fd) {gP:Addr} {py:FuncData} (gg:Df K mg "handed_on" eD ["web","over","place","front"] gP py) (om:FnOk P w K mg base (CXe P w) 4 gP py ["web","over","place","front"] (vI T)) {ik:Addr} {mP:FuncData} (fV:Df K mg "inward" fC ["web","r"] ik mP) (mV:FnOk P w K mg base (CXe P w) 7 ik mP ["web","r"] (wP T)) {eW:Addr} {iL:FuncData} (dL:Df K mg "standings" bT ["web","laying","wish","r"] eW iL) (iu:FnOk P w K mg base (CXe P w) 8 eW iL ["web","laying","wish","r"] (rR T)):FnOk P w K mg base (CXe P w) 9 f fd ["web","laying","wish","r"] (Dl T):=by
 refine D.F.okC oi (fun vs H Q E h=>?_) (fun cdv A outer s H vs Q E hr h=>?_)
 . obtain ⟨p,a,b,t,c,d,m,ps,rs,xs,ys,r,par,dep,rfl,_⟩:=h
   rfl
 . obtain ⟨p,a,b,t,c,d,m,ps,rs,xs,ys,r,par,dep,rfl,W,ha,fx,hb,fy,rr,R,k⟩:=h;obtain ⟨r0,r1⟩:=rr;have g:=W.go;have m24:=g.m24;have xl:=pW fx;have yl:=pW fy;refine ⟨_,(ay (bp (i:=4) oi.nd rfl (Or.inl wg.l) (aZ iu (hr.mono (by decide)) rq.g dL.m dL.F.kp dL.b .nil (cI hq) (ah (pvl 0 sk) (ah (pvl 1 BL) (ah (pvl 2 D2) (ah (pvl 3 Ap) am)))) (hdb:=rq.d))) (ay (bp (i:=5) oi.nd rfl (Or.inl qr.l) (gZ am)) (ay (hZ PassesOwn.never rfl (p7 (aZ mV (hr.mono (by decide)) ua.g fV.m fV.F.kp fV.b .nil (cI hq) (ah (pvl 0 sk) (ah (pvl 3 Ap) am)) (hdb:=ua.d))) (sg (n:=2) rfl (dE (bJ (i:=6) oi.nd rfl (Or.inl me.l)) (dE (bJ (i:=7) oi.nd rfl (Or.inl qz.l)) qe))) (ay (bp (i:=8) oi.nd rfl (Or.inl qv.l) (aZ om (hr.mono (by decide)) rG.g gg.m gg.F.kp gg.b .nil (cI hq) (ah (pvl 0 sk) (ah (bI b6 (pvl 4 wg) (pvl 6 me) (fun _ _=>rfl)) (ah (pvl 6 me) (ah (pvl 7 qz) am)))) (hdb:=rG.d))) (aM (dj (bW Fv (pvl 8 qv) aF (bK _)) (aM (eK (pP PySem.F.plainAttrs_list PySem.F.slot_list_append PySem.F.type_list_append fX (pvl 5 qr) (ah (fJ (ah (pvl 6 me) (ah (pvl 7 qz) (ah (pvl 8 qv) am)))) am)))) b5)))) (aM (bR (pvl 5 qr)))))),?_⟩;rw [show L2.start ["web","laying","wish","r","over","steps","place","front","times"] [V.ref p,V.ref a,V.ref b,V.int r]=[some (V.ref p),some (V.ref a),some (V.ref b),some (V.int r),none,none,none,none,none] from rfl];walk_at "rd";refine ⟨p,a,b,t,c,d,m,ps,rs,xs,ys,r,rfl,W,ha,by omega,hb,by omega,fun _ _ _ _=>⟨par,dep,R,fun lc H1 nc s1 ec=>⟨cu (by simp),fun ls ns=>?_⟩⟩,(fun z=>by rw [fx] at z;cases z),(fun _ z=>by rw [fy] at z;cases z),fun _ _ z=>absurd ⟨r0,r1⟩ z⟩;have s2:=Same.new (.lst []) ns;have ns0:=s1.free ns;have s12:=s1.trans s2;have es:upd H1 ls (.lst []) ls=some (.lst []):=ao;have ec2:=s2 _ _ ec;generalize upd H1 ls (.lst [])=H2 at s2 s12 es ec2 ⊢;refine ex6 p t m ps rs r ?_;refine an4 rfl (W.same s12) (fun _ _=>⟨par,dep,R,fun l2 qs tl H3 et n2 s3 e3 pa O=>?_⟩) (fun z=>absurd ⟨r0,r1⟩ z);refine ⟨l2,rfl,⟨_,SqL.of e3⟩,?_⟩;have ql:qs.length=tl.reverse.length:=Paired.length pa;have ll:=zK g R r0 r1;rw [et,aL] at ll;have n2s:l2≠ls:=fun z=>by rw [z,es] at n2;cases n2
   have ncs:lc≠ls:=fun z=>by rw [<- z,ec] at ns;cases ns
   have s13:=s12.trans s3;refine BJ (K:=K) (xs:=qs.map V.ref) (fun i σ H4=>Same H H4/\H4 l2=some (.lst (qs.map V.ref))/\H4 lc=some (.lst ((oE m rs r par dep (fun v=>(cx m xs ys).getD v.toNat 0) (hnd rs par)).map V.int))/\PairsAt H4 par qs tl.reverse/\∃ (us:List Addr) (v5 v6 v7:Option V),H4 ls=some (.lst (us.map V.ref))/\StepsAt H4 us (fU rs par (stg m rs r par dep ys xs) (tl.reverse.take i))/\σ=[some (V.ref p),some (V.ref a),some (V.ref b),some (V.int r),some (V.ref lc),some (V.ref ls),v5,v6,v7]) ⟨s13,e3,s3 _ _ ec2,pa,[],_,_,_,s3 _ _ es,.nil,rfl⟩ (fun i σ H4 _ z=>SqL.of z.2.1) ?_ ?_
   . rintro i x σ H4 N BB hBB hN hx ⟨s4,e4,c4,pa4,us,v5,v6,v7,u4,ba,rfl⟩;refine hBB _ _ ?_;obtain ⟨q,v,rfl,hq,hv,eq⟩:=pa4.get hx;have vm:v∈tl:=di.mp (a8 hv);obtain ⟨vr,vn⟩:=O.places v vm;have u:=R.up v vr.1 vr.2 vn;obtain ⟨kk,hk,k0,k1⟩:=CI g R vr.1 vr.2 vn;obtain ⟨kd,hd,d0,d1⟩:=CF g R vr.1 vr.2 vn;have et':tl.reverse.take (i+1)=tl.reverse.take i++[v]:=(by rw [b4,hv];rfl);have ul:us.length=(fU rs par (stg m rs r par dep ys xs) (tl.reverse.take i)).length:=Paired.length ba;have ul2:us.length<=24:=by
       rw [ul];unfold fU;rw [ai];refine bq (cH _ _) ?_;rw [bu,be];omega
     walk_at "rd";refine ⟨_,SqT.of eq,rfl,_,_,rfl,_,_,rfl,rfl,?_⟩;refine ixL c4 (atG vr.1 (by unfold oE;rw [ai,dq];omega)) ?_;rw [z8 vr.1 vr.2];refine ⟨p,t,m,ps,rs,_,v,par v,kk,kd,rfl,W.same s4,vr,u.1,hk,hd,⟨k0,k1⟩,⟨d0,d1⟩,?_⟩;have eh:(if 0<=stg m rs r par dep ys xs v then stg m rs r par dep ys xs v / kk else stg m rs r par dep ys xs v*kd)=hnd rs par v (stg m rs r par dep ys xs v):=by
       unfold hnd;rw [hk,hd]
       rfl
     rw [eh];refine ⟨_,rfl,?_⟩;obtain ⟨i1,i2⟩:=Uf g R (stg m rs r par dep ys xs) vr.1 vr.2 vn;by_cases z:0<hnd rs par v (stg m rs r par dep ys xs v)
     . rw [ag z,i1 z];rw [i1 z] at z;refine ⟨tyL u4,cu (by simp),fun q5 n5=>?_⟩;have s5:=Same.new (.tup (vSt (Tq rs par (stg m rs r par dep ys xs) v))) n5;refine tD (s5 _ _ u4) (eT (by rw [ai];omega)) (hN _ _ ⟨(s4.trans s5).put ns0 _,?_,?_,?_,us++[q5],_,_,_,?_,?_,rfl⟩)
       . rw [aX n2s];exact s5 _ _ e4
       . rw [aX ncs];exact s5 _ _ c4
       . exact Paired.imp' (fun a b h=>by rw [aX (oW (s5 _ _ h) (s5 _ _ u4) (by intro z;cases z))];exact s5 _ _ h) pa4
       . rw [ao,aA];rfl
       . have n5s:q5≠ls:=fun z=>by rw [z,u4] at n5;cases n5
         rw [et',RL (aW z)];refine CA (by rw [aX n5s,ao];rfl) ?_;exact Paired.imp' (fun a b h=>by rw [aX (oW (s5 _ _ h) (s5 _ _ u4) (by intro z;cases z))];exact s5 _ _ h) ba
     . rw [aa z];exact hN _ _ ⟨s4,e4,c4,pa4,us,_,_,_,u4,by rw [et',Q6 (by unfold xk;rw [aU];exact i2 z)];exact ba,rfl⟩
   . rintro BB σ H4 hBB ⟨s4,e4,c4,pa4,us,v5,v6,v7,u4,ba,rfl⟩;refine hBB _ _ ?_;rw [ai,ql,bx] at ba;walk_at "rd";exact k ls us tl H4 et ns0 s4 u4 ba O
def Bg (T:Txt K mg):Sp:=fun vs H Q _=>∃ (p a b t:Addr) (c d:Bool) (m:Int) (ps:List Addr) (rs:List Road) (xs ys:List Int) (r:Int) (par:Int->Int) (dep:Int->Nat),vs=[.ref p,.ref a,.ref b,.int r]/\WebAt T.Web H p m t ps rs/\SqX K c H a (xs.map V.int)/\bL m xs=true/\SqX K d H b (ys.map V.int)/\bL m ys=true/\(0<=r/\r<m)/\Rooted m rs r par dep /\
 ∀ l qs tl H',oB m rs r par dep r=r::tl->H l=none->Same H H'->H' l=some (.lst (qs.map V.ref))->StepsAt H' qs (iU par (stg m rs r par dep ys xs) tl)->Order m r par tl->Q (.ref l) H'
abbrev cY:Stmt:=top 37
theorem pM:FnScope ["web","laying","wish","r","over","steps","place","front"] ["web","laying","wish","r"] (ae cY):=FnScope.of (by kernel_rfl)
theorem vk:NmL (ae cY) "web":=.of (by kernel_rfl)
theorem A8:NmL (ae cY) "laying":=.of (by kernel_rfl)
theorem C1:NmL (ae cY) "wish":=.of (by kernel_rfl)
theorem yA:NmL (ae cY) "r":=.of (by kernel_rfl)
theorem qA:NmL (ae cY) "over":=.of (by kernel_rfl)
theorem pB:NmL (ae cY) "steps":=.of (by kernel_rfl)
theorem k6:NmL (ae cY) "place":=.of (by kernel_rfl)
theorem ud:NmL (ae cY) "front":=.of (by kernel_rfl)
theorem qB:NmG (ae cY) "standings":=.of (by kernel_rfl)
theorem yF:NmG (ae cY) "reversed":=.of (by kernel_rfl)
theorem sL:NmG (ae cY) "inward":=.of (by kernel_rfl)
theorem KY (T:Txt K mg) (hq:cR (CXe P w)) {f:Addr} {fd:FuncData} (D:Df K mg "steps_out" cY ["web","laying","wish","r"] f fd) {ik:Addr} {mP:FuncData} (fV:Df K mg "inward" fC ["web","r"] ik mP) (mV:FnOk P w K mg base (CXe P w) 7 ik mP ["web","r"] (wP T)) {eW:Addr} {iL:FuncData} (dL:Df K mg "standings" bT ["web","laying","wish","r"] eW iL) (iu:FnOk P w K mg base (CXe P w) 8 eW iL ["web","laying","wish","r"] (rR T)):FnOk P w K mg base (CXe P w) 9 f fd ["web","laying","wish","r"] (Bg T):=by
 refine D.F.okC pM (fun vs H Q E h=>?_) (fun cdv A outer s H vs Q E hr h=>?_)
 . obtain ⟨p,a,b,t,c,d,m,ps,rs,xs,ys,r,par,dep,rfl,_⟩:=h
   rfl
 . obtain ⟨p,a,b,t,c,d,m,ps,rs,xs,ys,r,par,dep,rfl,W,ha,fx,hb,fy,rr,R,k⟩:=h;obtain ⟨r0,r1⟩:=rr;have g:=W.go;have m24:=g.m24;have xl:=pW fx;have yl:=pW fy;refine ⟨_,(ay (bp (i:=4) pM.nd rfl (Or.inl qA.l) (aZ iu (hr.mono (by decide)) qB.g dL.m dL.F.kp dL.b .nil (cI hq) (ah (pvl 0 vk) (ah (pvl 1 A8) (ah (pvl 2 C1) (ah (pvl 3 yA) am)))) (hdb:=qB.d))) (ay (bp (i:=5) pM.nd rfl (Or.inl pB.l) (gZ am)) (ay (hZ PassesOwn.never rfl (EW yF.g T.reversed (aZ mV (hr.mono (by decide)) sL.g fV.m fV.F.kp fV.b .nil (cI hq) (ah (pvl 0 vk) (ah (pvl 3 yA) am)) (hdb:=sL.d))) (sg (n:=2) rfl (dE (bJ (i:=6) pM.nd rfl (Or.inl k6.l)) (dE (bJ (i:=7) pM.nd rfl (Or.inl ud.l)) qe))) (aM (dj (bW uO (bI b6 (pvl 4 qA) (pvl 6 k6) (fun _ _=>rfl)) aF (bK _)) (aM (eK (pP PySem.F.plainAttrs_list PySem.F.slot_list_append PySem.F.type_list_append fX (pvl 5 pB) (ah (fJ (ah (pvl 7 ud) (ah (pvl 6 k6) (ah (TM Qr (bI b6 (pvl 4 qA) (pvl 6 k6) (fun _ _=>rfl))) am)))) am)))) b5))) (aM (bR (pvl 5 pB)))))),?_⟩;rw [show L2.start ["web","laying","wish","r","over","steps","place","front"] [V.ref p,V.ref a,V.ref b,V.int r]=[some (V.ref p),some (V.ref a),some (V.ref b),some (V.int r),none,none,none,none] from rfl];walk_at "rd";refine ⟨p,a,b,t,c,d,m,ps,rs,xs,ys,r,rfl,W,ha,by omega,hb,by omega,fun _ _ _ _=>⟨par,dep,R,fun lc H1 nc s1 ec=>⟨cu (by simp),fun ls ns=>?_⟩⟩,(fun z=>by rw [fx] at z;cases z),(fun _ z=>by rw [fy] at z;cases z),fun _ _ z=>absurd ⟨r0,r1⟩ z⟩;have s2:=Same.new (.lst []) ns;have ns0:=s1.free ns;have s12:=s1.trans s2;have es:upd H1 ls (.lst []) ls=some (.lst []):=ao;have ec2:=s2 _ _ ec;generalize upd H1 ls (.lst [])=H2 at s2 s12 es ec2 ⊢;refine ex6 p t m ps rs r ?_;refine an4 rfl (W.same s12) (fun _ _=>⟨par,dep,R,fun l2 qs tl H3 et n2 s3 e3 pa O=>?_⟩) (fun z=>absurd ⟨r0,r1⟩ z);have ql:qs.length=tl.reverse.length:=Paired.length pa;rw [be] at ql;have ll:=zK g R r0 r1;rw [et,aL] at ll;have n2s:l2≠ls:=fun z=>by rw [z,es] at n2;cases n2
   have ncs:lc≠ls:=fun z=>by rw [<- z,ec] at ns;cases ns
   have s13:=s12.trans s3;refine ⟨l2,rfl,_,SqL.of e3,?_⟩;refine Ec (K:=K) (xs:=qs.map V.ref) (fun i σ H4=>Same H H4/\H4 l2=some (.lst (qs.map V.ref))/\H4 lc=some (.lst ((oE m rs r par dep (fun v=>(cx m xs ys).getD v.toNat 0) (hnd rs par)).map V.int))/\PairsAt H4 par qs tl.reverse/\∃ (us:List Addr) (v5 v6:Option V),H4 ls=some (.lst (us.map V.ref))/\StepsAt H4 us (iU par (stg m rs r par dep ys xs) (tl.take i))/\σ=[some (V.ref p),some (V.ref a),some (V.ref b),some (V.int r),some (V.ref lc),some (V.ref ls),v5,v6]) ⟨s13,e3,s3 _ _ ec2,pa,[],_,_,s3 _ _ es,.nil,rfl⟩ (fun i σ H4 _ z=>SqL.of z.2.1) ?_ ?_
   . rintro i x σ H4 N hN hx ⟨s4,e4,c4,pa4,us,v5,v6,u4,ba,rfl⟩;have il:=(aq.mp hx).1;rw [be,ai] at il;rw [da (by rw [ai];exact il),ai] at hx;obtain ⟨q,v,rfl,hq',hv,eq⟩:=pa4.get hx;rw [da (by omega),show tl.length - 1 - (qs.length - 1 - i)=i by omega] at hv;have vm:=a8 hv;have vr:=O.rng v vm;have et':tl.take (i+1)=tl.take i++[v]:=(by rw [b4,hv];rfl);have ul:us.length=(iU par (stg m rs r par dep ys xs) (tl.take i)).length:=Paired.length ba;have ul2:us.length<=24:=by
       rw [ul];unfold iU;rw [ai];refine bq (cH _ _) ?_;rw [bu];omega
     have gv:atI ((oE m rs r par dep (fun v=>(cx m xs ys).getD v.toNat 0) (hnd rs par)).map V.int) v=some (V.int (stg m rs r par dep ys xs v)):=by
       rw [atG vr.1 (by unfold oE;rw [ai,dq];omega),z8 vr.1 vr.2]
     walk_at "rd";refine ⟨_,SqT.of eq,rfl,_,_,rfl,_,_,rfl,rfl,?_⟩;refine ixL c4 gv ⟨_,rfl,?_⟩;by_cases z:stg m rs r par dep ys xs v<0
     . rw [ag z];refine ⟨tyL u4,ixL c4 gv ⟨_,rfl,cu (by simp),fun q5 n5=>?_⟩⟩;have s5:=Same.new (.tup (vSt (Tr par (stg m rs r par dep ys xs) v))) n5;refine tD (s5 _ _ u4) (eT (by rw [ai];omega)) (hN _ _ ⟨(s4.trans s5).put ns0 _,?_,?_,?_,us++[q5],_,_,?_,?_,rfl⟩)
       . rw [aX n2s];exact s5 _ _ e4
       . rw [aX ncs];exact s5 _ _ c4
       . exact Paired.imp' (fun a b h=>by rw [aX (oW (s5 _ _ h) (s5 _ _ u4) (by intro z;cases z))];exact s5 _ _ h) pa4
       . rw [ao,aA];rfl
       . have n5s:q5≠ls:=fun z=>by rw [z,u4] at n5;cases n5
         rw [et',SO (aW z)];refine CA (by rw [aX n5s,ao];rfl) ?_;exact Paired.imp' (fun a b h=>by rw [aX (oW (s5 _ _ h) (s5 _ _ u4) (by intro z;cases z))];exact s5 _ _ h) ba
     . rw [aa z];exact hN _ _ ⟨s4,e4,c4,pa4,us,_,_,u4,by rw [et',R3 (by unfold vB;rw [aU];exact z)];exact ba,rfl⟩
   . rintro σ H4 ⟨s4,e4,c4,pa4,us,v5,v6,u4,ba,rfl⟩;rw [ai,ql,bx] at ba;walk_at "rd";exact k ls us tl H4 et ns0 s4 u4 ba O
def zS (T:Txt K mg):Sp:=fun vs H Q E=>∃ (p a b t:Addr) (c d:Bool) (m:Int) (ps:List Addr) (rs:List Road) (xs ys:List Int),vs=[.ref p,.ref a,.ref b]/\WebAt T.Web H p m t ps rs/\SqX K c H a (xs.map V.int)/\xs.length<=1000/\SqX K d H b (ys.map V.int)/\ys.length<=1000 /\
 (bL m xs=true->bL m ys=true->∃ PAR DEP,(∀ r,0<=r->r<m->Rooted m rs r (PAR r) (DEP r)) /\
   (0<=stg m rs 0 (PAR 0) (DEP 0) ys xs 0->∀ l lq qs tl H',oB m rs 0 (PAR 0) (DEP 0) 0=0::tl->Order m 0 (PAR 0) tl->H lq=none->H l=none->Same H H'->H' l=some (.tup [.str "steps",.ref lq])->H' lq=some (.lst (qs.map V.ref))->StepsAt H' qs (fU rs (PAR 0) (stg m rs 0 (PAR 0) (DEP 0) ys xs) tl.reverse++iU (PAR 0) (stg m rs 0 (PAR 0) (DEP 0) ys xs) tl)->Q (.ref l) H') /\
   (¬ 0<=stg m rs 0 (PAR 0) (DEP 0) ys xs 0->∀ l lt H',H lt=none->H l=none->Same H H'->H' l=some (.tup [.str "lack",.ref lt])->H' lt=some (.tup (((rZ m rs PAR DEP xs ys m.toNat).map fun x=>-x).map V.int))->Q (.ref l) H')) /\
 (bL m xs=false->∀ H',Same H H'->E (.ref T.BadLaying) none H')/\(bL m xs=true->bL m ys=false->∀ H',Same H H'->E (.ref T.BadWish) none H')
abbrev fb:Stmt:=top 35
theorem OJ:FnScope ["web","laying","wish"] ["web","laying","wish"] (ae fb):=FnScope.of (by kernel_rfl)
theorem p8:NmL (ae fb) "web":=.of (by kernel_rfl)
theorem lZ:NmL (ae fb) "laying":=.of (by kernel_rfl)
theorem oI:NmL (ae fb) "wish":=.of (by kernel_rfl)
theorem uI:NmG (ae fb) "is_met":=.of (by kernel_rfl)
theorem sK:NmG (ae fb) "steps_in":=.of (by kernel_rfl)
theorem sx:NmG (ae fb) "steps_out":=.of (by kernel_rfl)
theorem sM:NmG (ae fb) "lacks_of":=.of (by kernel_rfl)
theorem Oq (T:Txt K mg) (hq:cR (CXe P w)) {f:Addr} {fd:FuncData} (D:Df K mg "meeting" fb ["web","laying","wish"] f fd) {ic:Addr} {mO:FuncData} (fW:Df K mg "is_met" gU ["web","laying","wish"] ic mO) (m7:FnOk P w K mg base (CXe P w) 10 ic mO ["web","laying","wish"] (wV T)) {mZ:Addr} {DI:FuncData} (qa:Df K mg "lacks_of" fu ["web","laying","wish"] mZ DI) (zx:FnOk P w K mg base (CXe P w) 10 mZ DI ["web","laying","wish"] (DH T)) {nB:Addr} {Dj:FuncData} (qd:Df K mg "steps_in" dg ["web","laying","wish","r"] nB Dj) (Ak:FnOk P w K mg base (CXe P w) 9 nB Dj ["web","laying","wish","r"] (Dl T)) {lL:Addr} {Cd:FuncData} (oj:Df K mg "steps_out" cY ["web","laying","wish","r"] lL Cd) (xR:FnOk P w K mg base (CXe P w) 9 lL Cd ["web","laying","wish","r"] (Bg T)):FnOk P w K mg base (CXe P w) 11 f fd ["web","laying","wish"] (zS T):=by
 refine D.F.okX OJ (fun vs H Q E h=>?_) (fun cdv A outer s H vs Q E hr h=>?_)
 . obtain ⟨p,a,b,t,c,d,m,ps,rs,xs,ys,rfl,_⟩:=h
   rfl
 . obtain ⟨p,a,b,t,c,d,m,ps,rs,xs,ys,rfl,W,ha,hz,hb,hy,k,e1,e2⟩:=h;have m1:=W.go.m1;have m24:=W.go.m24;have g:=W.go;refine ⟨_,(ay (dj (jU (aZ m7 (hr.mono (by decide)) uI.g fW.m fW.F.kp fW.b .nil gk (ah (pvl 0 p8) (ah (pvl 1 lZ) (ah (pvl 2 oI) am))) (hdb:=uI.d))) (aM (bR (fJ (ah qK (ah (bd VO (aZ Ak (hr.mono (by decide)) sK.g qd.m qd.F.kp qd.b .nil gk (ah (pvl 0 p8) (ah (pvl 1 lZ) (ah (pvl 2 oI) (ah aF am)))) (hdb:=sK.d)) (aZ xR (hr.mono (by decide)) sx.g oj.m oj.F.kp oj.b .nil gk (ah (pvl 0 p8) (ah (pvl 1 lZ) (ah (pvl 2 oI) (ah aF am)))) (hdb:=sx.d))) am))))) b5) (aM (bR (fJ (ah qK (ah (aZ zx (hr.mono (by decide)) sM.g qa.m qa.F.kp qa.b .nil gk (ah (pvl 0 p8) (ah (pvl 1 lZ) (ah (pvl 2 oI) am))) (hdb:=sM.d)) am)))))),?_⟩;rw [show L2.start ["web","laying","wish"] [V.ref p,V.ref a,V.ref b]=[some (V.ref p),some (V.ref a),some (V.ref b)] from rfl];walk_at "rd";refine ⟨p,a,b,t,c,d,m,ps,rs,xs,ys,rfl,W,ha,hz,hb,hy,fun fx fy=>?_,e1,e2⟩;obtain ⟨PAR,DEP,RR,k1,k2⟩:=k fx fy;have R0:=RR 0 (bh _) (by omega);refine ⟨PAR 0,DEP 0,R0,fun H1 s1=>⟨_,rfl,?_⟩⟩;by_cases z:0<=stg m rs 0 (PAR 0) (DEP 0) ys xs 0
   . rw [ag (aW z)];refine ⟨p,a,b,t,c,d,m,ps,rs,xs,ys,0,PAR 0,DEP 0,rfl,W.same s1,Same.sqX s1 ha,fx,Same.sqX s1 hb,fy,⟨bh _,by omega⟩,R0,fun l1 q1 tl H2 et n1 s2 h2 st1 O=>?_⟩;have s12:=s1.trans s2;refine ⟨p,a,b,t,c,d,m,ps,rs,xs,ys,0,PAR 0,DEP 0,rfl,W.same s12,Same.sqX s12 ha,fx,Same.sqX s12 hb,fy,⟨bh _,by omega⟩,R0,fun l2 q2 tl' H3 et' n2 s3 h3 st2 _=>?_⟩;have etl:tl'=tl:=(by rw [et] at et';cases et';rfl);subst etl;have ll:=zK g R0 (bh _) (by omega);rw [et,aL] at ll;have b1:q1.length<=24:=by
       rw [Paired.length st1];unfold fU;rw [ai];refine bq (cH _ _) ?_;rw [be];omega
     have b2:q2.length<=24:=by
       rw [Paired.length st2];unfold iU;rw [ai];refine bq (cH _ _) ?_;omega
     have s13:=s12.trans s3;refine WO (s3 _ _ h2) h3 (cu (by rw [ai,ai];omega)) fun l3 n3=>⟨cu (by simp),fun l4 n4=>?_⟩;have s4:=Same.new (.lst (q1.map V.ref++q2.map V.ref)) n3;have s5:=Same.new (.tup [V.str (Str.ofString "steps"),V.ref l3]) n4;have n30:=s13.free n3;have n40:=(s13.trans s4).free n4;refine k1 z l4 l3 (q1++q2) tl' _ et O n30 n40 (s13.trans (s4.trans s5)) ao (by rw [s5 _ _ ao,aA]) (StepsAt.same (s4.trans s5) ?_);exact JW st2 (StepsAt.same s3 st1)
   . rw [aa (by rw [aU];exact z)];refine ⟨p,a,b,t,c,d,m,ps,rs,xs,ys,PAR,DEP,rfl,W.same s1,Same.sqX s1 ha,fx,Same.sqX s1 hb,fy,RR,fun l2 H2 n2 s2 h2=>⟨cu (by simp),fun l4 n4=>?_⟩⟩;have s5:=Same.new (.tup [V.str (Str.ofString "lack"),V.ref l2]) n4;exact k2 z l4 l2 _ (s1.free n2) ((s1.trans s2).free n4) (s1.trans (s2.trans s5)) ao (s5 _ _ h2)
theorem Jn {K:PySem.W.Frag} {H:Hp} {l l' lq lq':Addr} {qs qs':List Addr} {ss:List Stp} {Q:VK} (e:H l=some (.tup [.str "steps",.ref lq])) (eq:H lq=some (.lst (qs.map V.ref))) (st:StepsAt H qs ss) (e':H l'=some (.tup [.str "steps",.ref lq'])) (eq':H lq'=some (.lst (qs'.map V.ref))) (st':StepsAt H qs' ss) (q:Q (.bl true) H):Rh K (.ref l) (.ref l') H Q:=by
 refine ⟨_,_,.tup (SqT.of e) (.cons (.str (by decide +kernel)) (.cons (.lst (SqL.of eq) (DX st)) .nil)),.tup (SqT.of e') (.cons (.str (by decide +kernel)) (.cons (.lst (SqL.of eq') (DX st')) .nil)),?_,?_⟩
 . have:=GN ss;simp only [PyData.depth,PyData.depthAll];omega
 . simp only [PyData.eqv,PyData.eqvAll];rw [MX];have:((("steps":Str) == ("steps":Str)) && (true && true))=true:=by simp
   rw [this];exact q
theorem MI {K:PySem.W.Frag} {H:Hp} {l l' lq lq':Addr} {ws:List Int} {Q:VK} (e:H l=some (.tup [.str "lack",.ref lq])) (eq:H lq=some (.tup (ws.map V.int))) (e':H l'=some (.tup [.str "lack",.ref lq'])) (eq':H lq'=some (.tup (ws.map V.int))) (q:Q (.bl true) H):Rh K (.ref l) (.ref l') H Q:=by
 refine ⟨_,_,.tup (SqT.of e) (.cons (.str (by decide +kernel)) (.cons (.tup (SqT.of eq) (rK ws)) .nil)),.tup (SqT.of e') (.cons (.str (by decide +kernel)) (.cons (.tup (SqT.of eq') (rK ws)) .nil)),?_,?_⟩
 . have:=kO ws;simp only [PyData.depth,PyData.depthAll];omega
 . simp only [PyData.eqv,PyData.eqvAll];rw [tW];have:((("lack":Str) == ("lack":Str)) && (true && true))=true:=by simp
   rw [this];exact q
def uJ (T:Txt K mg):Sp:=fun vs H Q _=>∃ (x lx ly t:Addr) (m:Int) (ps:List Addr) (rs:List Road) (xs ys:List Int),vs=[.ref x,.ref lx,.ref ly]/\WebAt T.Web H x m t ps rs/\H lx=some (.lst (xs.map V.int))/\H ly=some (.lst (ys.map V.int))/\bL m xs=true/\bL m ys=true/\xs.length<=24/\ys.length<=24/\∀ H',Same H H'->Q (.bl true) H'
abbrev cw:Stmt:=top 55
theorem uD:FnScope ["web","laying","wish","told"] ["web","laying","wish"] (ae cw):=FnScope.of (by kernel_rfl)
theorem mJ:NmL (ae cw) "web":=.of (by kernel_rfl)
theorem jY:NmL (ae cw) "laying":=.of (by kernel_rfl)
theorem lG:NmL (ae cw) "wish":=.of (by kernel_rfl)
theorem lC:NmL (ae cw) "told":=.of (by kernel_rfl)
theorem gJ:NmG (ae cw) "meeting":=.of (by kernel_rfl)
theorem bQ:NmG (ae cw) "tuple":=.of (by kernel_rfl)
theorem pf:NmG (ae cw) "is_met":=.of (by kernel_rfl)
theorem CZ (T:Txt K mg) (hq:cR (CXe P w)) {f:Addr} {fd:FuncData} (D:Df K mg "_law_tuples_too" cw ["web","laying","wish"] f fd) {ic:Addr} {mO:FuncData} (fW:Df K mg "is_met" gU ["web","laying","wish"] ic mO) (m7:FnOk P w K mg base (CXe P w) 10 ic mO ["web","laying","wish"] (wV T)) {jI:Addr} {sI:FuncData} (eG:Df K mg "meeting" fb ["web","laying","wish"] jI sI) (mS:FnOk P w K mg base (CXe P w) 11 jI sI ["web","laying","wish"] (zS T)):FnOk P w K mg base (CXe P w) 12 f fd ["web","laying","wish"] (uJ T):=by
 refine D.F.okC uD (fun vs H Q E h=>?_) (fun cdv A outer s H vs Q E hr h=>?_)
 . obtain ⟨x,lx,ly,t,m,ps,rs,xs,ys,rfl,_⟩:=h
   rfl
 . obtain ⟨x,lx,ly,t,m,ps,rs,xs,ys,rfl,W,hx,hy,fx,fy,xl,yl,k⟩:=h;have hu:=wY hr;have hv:=hr.units;have g:=W.go;have m1:=g.m1;have m24:=g.m24;refine ⟨_,(ay (bp (i:=3) uD.nd rfl (Or.inl lC.l) (aZ mS (hr.mono (by decide)) gJ.g eG.m eG.F.kp eG.b .nil (cI hq) (ah (pvl 0 mJ) (ah (fK fN bQ.g T.tuple ie (ah (pvl 1 jY) am) (hn:=bQ.n) (hdb:=bQ.d)) (ah (fK fN bQ.g T.tuple ie (ah (pvl 2 lG) am) (hn:=bQ.n) (hdb:=bQ.d)) am))) (hdb:=gJ.d))) (aM (bR (vX (i9 (A9 hv) (pvl 3 lC) (aZ mS (hr.mono (by decide)) gJ.g eG.m eG.F.kp eG.b .nil (cI hq) (ah (pvl 0 mJ) (ah (pvl 1 jY) (ah (pvl 2 lG) am))) (hdb:=gJ.d)) (bK _)) (yB (i9 jB (aZ m7 (hr.mono (by decide)) pf.g fW.m fW.F.kp fW.b .nil (cI hq) (ah (pvl 0 mJ) (ah (fK fN bQ.g T.tuple ie (ah (pvl 1 jY) am) (hn:=bQ.n) (hdb:=bQ.d)) (ah (fK fN bQ.g T.tuple ie (ah (pvl 2 lG) am) (hn:=bQ.n) (hdb:=bQ.d)) am))) (hdb:=pf.d)) (i9 jB (bI fh (pvl 3 lC) aF (fun _ _=>rfl)) qK (bK _)) (bK _))))))),?_⟩;rw [show L2.start ["web","laying","wish","told"] [V.ref x,V.ref lx,V.ref ly]=[some (V.ref x),some (V.ref lx),some (V.ref ly),none] from rfl];have exP:∀ r:Int,∃ pd:(Int->Int) × (Int->Nat),0<=r->r<m->Rooted m rs r pd.1 pd.2:=fun r=>by
     by_cases c:0<=r/\r<m
     . obtain ⟨par,dep,R⟩:=BQ g c.1 c.2;exact ⟨(par,dep),fun _ _=>R⟩
     . exact ⟨(fun x=>x,fun _=>0),fun z1 z2=>absurd ⟨z1,z2⟩ c⟩
   obtain ⟨PD,hPD⟩:∃ PD:Int->(Int->Int) × (Int->Nat),∀ r,0<=r->r<m->Rooted m rs r (PD r).1 (PD r).2:=⟨fun r=>Classical.choose (exP r),fun r=>Classical.choose_spec (exP r)⟩;have R0:=hPD 0 (bh _) (by omega);refine f8 fun N1 h1=>?_;walk_at "rd";refine ⟨_,.inl ⟨SqL.of hx,fun p1 n1=>?_⟩⟩;have u1:=Same.new (HO.tup (xs.map V.int)) n1;have e1:upd H p1 (HO.tup (xs.map V.int)) p1=some (.tup (xs.map V.int)):=ao;generalize upd H p1 (HO.tup (xs.map V.int))=H1 at u1 e1 ⊢;refine ⟨_,.inl ⟨SqL.of (u1 _ _ hy),fun p2 n2=>?_⟩⟩;have v2:=Same.new (HO.tup (ys.map V.int)) n2;have u2:=u1.trans v2;have e12:=v2 _ _ e1;have e2:upd H1 p2 (HO.tup (ys.map V.int)) p2=some (.tup (ys.map V.int)):=ao;generalize upd H1 p2 (HO.tup (ys.map V.int))=H2 at u2 e12 e2 ⊢;refine ⟨x,p1,p2,t,false,false,m,ps,rs,xs,ys,rfl,W.same u2,SqT.of e12,by omega,SqT.of e2,by omega,fun _ _=>⟨fun r=>(PD r).1,fun r=>(PD r).2,hPD,fun c l lq qs tl H3 et O nq nl s3 el eq st=>?_,fun c l lt H3 nt nl s3 el et=>?_⟩,(fun z=>by rw [fx] at z;cases z),(fun _ z=>by rw [fy] at z;cases z)⟩
   . refine h1 _ _ ?_;walk_at "rd";have u3:=u2.trans s3;refine ⟨x,lx,ly,t,true,true,m,ps,rs,xs,ys,rfl,W.same u3,SqL.of (u3 _ _ hx),by omega,SqL.of (u3 _ _ hy),by omega,fun _ _=>⟨fun r=>(PD r).1,fun r=>(PD r).2,hPD,fun _ l' lq' qs' tl' H4 et' _ nq' nl' s4 el' eq' st'=>?_,fun c'=>absurd c c'⟩,(fun z=>by rw [fx] at z;cases z),(fun _ z=>by rw [fy] at z;cases z)⟩;have etl:tl'=tl:=(by rw [et] at et';cases et';rfl);subst etl;have s04:=u3.trans s4;refine Jn (s4 _ _ el) (s4 _ _ eq) (st.same s4) el' eq' st' ?_;refine ⟨_,rfl,?_⟩;rw [ag rfl];refine ⟨_,.inl ⟨SqL.of (s04 _ _ hx),fun p5 n5=>?_⟩⟩;have u5:=Same.new (HO.tup (xs.map V.int)) n5;have e5:upd H4 p5 (HO.tup (xs.map V.int)) p5=some (.tup (xs.map V.int)):=ao;generalize upd H4 p5 (HO.tup (xs.map V.int))=H5 at u5 e5 ⊢;refine ⟨_,.inl ⟨SqL.of (u5 _ _ (s04 _ _ hy)),fun p6 n6=>?_⟩⟩;have v6:=Same.new (HO.tup (ys.map V.int)) n6;have u6:=s04.trans (u5.trans v6);have el6:=v6 _ _ (u5 _ _ (s4 _ _ el));have e56:=v6 _ _ e5;have e6:upd H5 p6 (HO.tup (ys.map V.int)) p6=some (.tup (ys.map V.int)):=ao;generalize upd H5 p6 (HO.tup (ys.map V.int))=H6 at u6 el6 e56 e6 ⊢;refine ⟨x,p5,p6,t,false,false,m,ps,rs,xs,ys,rfl,W.same u6,SqT.of e56,by omega,SqT.of e6,by omega,fun _ _=>⟨(PD 0).1,(PD 0).2,R0,fun H7 s7=>?_⟩,(fun z=>by rw [fx] at z;cases z),(fun _ z=>by rw [fy] at z;cases z)⟩;refine ixT (s7 _ _ el6) rfl ⟨rfl,rfl,?_⟩;have s00:gat m rs 0 (PD 0).1 (PD 0).2 (fun v=>(cx m xs ys).getD v.toNat 0) (hnd rs (PD 0).1) 0=stg m rs 0 (PD 0).1 (PD 0).2 ys xs 0:=rfl;rw [s00,aW c,aW (show V.str (Str.ofString "steps")=V.str (Str.ofString "steps") from rfl),aW rfl];exact k _ (u6.trans s7)
   . refine h1 _ _ ?_;walk_at "rd";have u3:=u2.trans s3;refine ⟨x,lx,ly,t,true,true,m,ps,rs,xs,ys,rfl,W.same u3,SqL.of (u3 _ _ hx),by omega,SqL.of (u3 _ _ hy),by omega,fun _ _=>⟨fun r=>(PD r).1,fun r=>(PD r).2,hPD,fun c'=>absurd c' c,fun _ l' lt' H4 nt' nl' s4 el' et'=>?_⟩,(fun z=>by rw [fx] at z;cases z),(fun _ z=>by rw [fy] at z;cases z)⟩;have s04:=u3.trans s4;refine MI (s4 _ _ el) (s4 _ _ et) el' et' ?_;refine ⟨_,rfl,?_⟩;rw [ag rfl];refine ⟨_,.inl ⟨SqL.of (s04 _ _ hx),fun p5 n5=>?_⟩⟩;have u5:=Same.new (HO.tup (xs.map V.int)) n5;have e5:upd H4 p5 (HO.tup (xs.map V.int)) p5=some (.tup (xs.map V.int)):=ao;generalize upd H4 p5 (HO.tup (xs.map V.int))=H5 at u5 e5 ⊢;refine ⟨_,.inl ⟨SqL.of (u5 _ _ (s04 _ _ hy)),fun p6 n6=>?_⟩⟩;have v6:=Same.new (HO.tup (ys.map V.int)) n6;have u6:=s04.trans (u5.trans v6);have el6:=v6 _ _ (u5 _ _ (s4 _ _ el));have e56:=v6 _ _ e5;have e6:upd H5 p6 (HO.tup (ys.map V.int)) p6=some (.tup (ys.map V.int)):=ao;generalize upd H5 p6 (HO.tup (ys.map V.int))=H6 at u6 el6 e56 e6 ⊢;refine ⟨x,p5,p6,t,false,false,m,ps,rs,xs,ys,rfl,W.same u6,SqT.of e56,by omega,SqT.of e6,by omega,fun _ _=>⟨(PD 0).1,(PD 0).2,R0,fun H7 s7=>?_⟩,(fun z=>by rw [fx] at z;cases z),(fun _ z=>by rw [fy] at z;cases z)⟩;refine ixT (s7 _ _ el6) rfl ⟨rfl,rfl,?_⟩;have s00:gat m rs 0 (PD 0).1 (PD 0).2 (fun v=>(cx m xs ys).getD v.toNat 0) (hnd rs (PD 0).1) 0=stg m rs 0 (PD 0).1 (PD 0).2 ys xs 0:=rfl;rw [s00,bH c,bH (show ¬ V.str (Str.ofString "lack")=V.str (Str.ofString "steps") by intro z;cases z),aW rfl];exact k _ (u6.trans s7)
def Ds (T:Txt K mg):Sp:=fun vs H Q _=>∃ (c:Int),vs=[.int c]/\∀ t,2<=t->t<=1000000->Q (.int t) H
abbrev jG:Stmt:=top 41
theorem LI:FnScope ["part"] ["part"] (ae jG):=FnScope.of (by kernel_rfl)
theorem rd:NmL (ae jG) "part":=.of (by kernel_rfl)
theorem Lb (T:Txt K mg) (hq:cR (CXe P w)) {f:Addr} {fd:FuncData} (D:Df K mg "_law_toll" jG ["part"] f fd):FnOk P w K mg base (CXe P w) 1 f fd ["part"] (Ds T):=by
 refine D.F.okC LI (fun vs H Q E h=>?_) (fun cdv A outer s H vs Q E hr h=>?_)
 . obtain ⟨c,rfl,_⟩:=h
   rfl
 . obtain ⟨c,rfl,k⟩:=h;refine ⟨_,(ay (dj (bW jB (bd dY (pvl 0 rd) aF) aF (bK _)) (aM (bR (bd nP aF (bd dY (bd gA (pvl 0 rd) aF) (bd qN (bd rN aF aF) aF))))) b5) (aM (bR (bd nP aF (bd dY (bd gA (pvl 0 rd) aF) aF))))),?_⟩;rw [show L2.start ["part"] [V.int c]=[some (V.int c)] from rfl];walk_at "rd";have e6:(10:Int)^Int.toNat 6 - 1=999999:=by decide
   have a1:=bE (c / 8) (show (999999:Int)≠0 by decide);have a2:=bO (c / 8) (show (0:Int)<999999 by decide);have a3:=bE (c / 8) (show (4:Int)≠0 by decide);have a4:=bO (c / 8) (show (0:Int)<4 by decide);refine ⟨by decide,?_⟩;by_cases z:c % 8=7
   . rw [ag z];refine ⟨⟨by decide,by decide⟩,⟨by decide,by decide,by decide⟩,by decide,?_⟩;rw [e6];exact k _ (by omega) (by omega)
   . rw [aa z];exact ⟨⟨by decide,by decide⟩,by decide,k _ (by omega) (by omega)⟩
def Cq (T:Txt K mg):Sp:=fun vs H Q _=>∃ (a:Addr) (ns:List Int) (m s:Int),vs=[.ref a,.int m,.int s]/\SqL K H a (ns.map V.int)/\1<=m/\m<=24/\0<=s/\s<4 /\
 ∀ (l:Addr) (ps:List Addr) (rs:List Road) (H':Hp),H l=none->Same H H'->H' l=some (.lst (ps.map V.ref))->RoadsAt H' ps rs->Good m rs->Q (.ref l) H'
abbrev cP:Stmt:=top 42
theorem gX:FnScope ["script","many","shape","roads","k","part","to","there","back"] ["script","many","shape"] (ae cP):=FnScope.of (by kernel_rfl)
theorem AZ:NmL (ae cP) "script":=.of (by kernel_rfl)
theorem CT:NmL (ae cP) "many":=.of (by kernel_rfl)
theorem Bx:NmL (ae cP) "shape":=.of (by kernel_rfl)
theorem kR:NmL (ae cP) "roads":=.of (by kernel_rfl)
theorem gG:NmL (ae cP) "k":=.of (by kernel_rfl)
theorem eu:NmL (ae cP) "part":=.of (by kernel_rfl)
theorem sJ:NmL (ae cP) "to":=.of (by kernel_rfl)
theorem k9:NmL (ae cP) "there":=.of (by kernel_rfl)
theorem lY:NmL (ae cP) "back":=.of (by kernel_rfl)
theorem Br:NmG (ae cP) "range":=.of (by kernel_rfl)
theorem qC:NmG (ae cP) "_law_drawn":=.of (by kernel_rfl)
theorem iV:NmG (ae cP) "_law_toll":=.of (by kernel_rfl)
theorem K1 (T:Txt K mg) (hq:cR (CXe P w)) {f:Addr} {fd:FuncData} (D:Df K mg "_law_roads" cP ["script","many","shape"] f fd) {cC:Addr} {c6:FuncData} (bj:Df K mg "_law_drawn" cU ["script","k"] cC c6) (cQ:FnOk P w K mg base (CXe P w) 1 cC c6 ["script","k"] (jP T)) {nA:Addr} {C3:FuncData} (jD:Df K mg "_law_toll" jG ["part"] nA C3) (uT:FnOk P w K mg base (CXe P w) 1 nA C3 ["part"] (Ds T)):FnOk P w K mg base (CXe P w) 2 f fd ["script","many","shape"] (Cq T):=by
 refine D.F.okC gX (fun vs H Q E h=>?_) (fun cdv A outer s H vs Q E hr h=>?_)
 . obtain ⟨a,ns,m,s,rfl,_⟩:=h
   rfl
 . obtain ⟨a,ns,m,sh,rfl,ha,m1,m24,sh0,sh4,k⟩:=h;refine ⟨_,(ay (bp (i:=3) gX.nd rfl (Or.inl kR.l) (gZ am)) (ay (hZ PassesOwn.never rfl (BI Br.g T.range (ah aF (ah (pvl 1 CT) am))) (bJ (i:=4) gX.nd rfl (Or.inl gG.l)) (ay (bp (i:=5) gX.nd rfl (Or.inl eu.l) (aZ cQ (hr.mono (by decide)) qC.g bj.m bj.F.kp bj.b .nil (cI hq) (ah (pvl 0 AZ) (ah (pvl 4 gG) am)) (hdb:=qC.d))) (ay (bp (i:=6) gX.nd rfl (Or.inl sJ.l) (bI b6 (gZ (ah (bd dY (pvl 5 eu) (pvl 4 gG)) (ah (bd qN (pvl 4 gG) aF) (ah aF (ah (bd dY (pvl 5 eu) (pvl 4 gG)) am))))) (pvl 2 Bx) (fun _ _=>rfl))) (ay (bp (i:=5) gX.nd rfl (Or.inl eu.l) (bd gA (pvl 5 eu) (pvl 4 gG))) (ay (bp (i:=7) gX.nd rfl (Or.inl k9.l) (aZ uT (hr.mono (by decide)) iV.g jD.m jD.F.kp jD.b .nil (cI hq) (ah (bd dY (pvl 5 eu) (bd rN aF aF)) am) (hdb:=iV.d))) (ay (bp (i:=8) gX.nd rfl (Or.inl lY.l) (aZ uT (hr.mono (by decide)) iV.g jD.m jD.F.kp jD.b .nil (cI hq) (ah (bd dY (bd gA (pvl 5 eu) (bd rN aF aF)) (bd rN aF aF)) am) (hdb:=iV.d))) (ay (dj (bW jB (bd dY (bd Im (pvl 5 eu) (bd rN aF aF)) aF) aF (bK _)) (aM (bp (i:=8) gX.nd rfl (Or.inl lY.l) (pvl 7 k9))) b5) (aM (dj (bW jB (bd dY (bd Im (pvl 5 eu) (bd rN aF aF)) aF) aF (bK _)) (aM (eK (pP PySem.F.plainAttrs_list PySem.F.slot_list_append PySem.F.type_list_append fX (pvl 3 kR) (ah (fJ (ah (pvl 6 sJ) (ah (pvl 4 gG) (ah (pvl 7 k9) (ah (pvl 8 lY) am))))) am)))) (aM (eK (pP PySem.F.plainAttrs_list kC PySem.F.type_list_insert Qt (pvl 3 kR) (ah aF (ah (fJ (ah (pvl 4 gG) (ah (pvl 6 sJ) (ah (pvl 8 lY) (ah (pvl 7 k9) am))))) am)))))))))))))) (aM (bR (pvl 3 kR))))),?_⟩;rw [show L2.start ["script","many","shape","roads","k","part","to","there","back"] [V.ref a,V.int m,V.int sh]=[some (V.ref a),some (V.int m),some (V.int sh),none,none,none,none,none,none] from rfl];walk_at "rd";refine ⟨by decide,fun lo nlo=>⟨1,m,⟨rfl,rfl⟩,⟨by decide,by decide,by omega,by omega⟩,?_⟩⟩;refine uP (fun i σ H3=>∃ (ps:List Addr) (rs:List Road) (rows:List Row) (v4 v5 v6 v7 v8:Option V),σ=[some (V.ref a),some (V.int m),some (V.int sh),some (V.ref lo),v4,v5,v6,v7,v8]/\Same H H3/\H3 lo=some (.lst (ps.map V.ref))/\RoadsAt H3 ps rs/\Rows i rows/\Put (below m.toNat) rows rs) ⟨[],[],[],_,_,_,_,_,rfl,Same.new _ nlo,ao,.nil,⟨rfl,fun i r h=>by cases h⟩,Put.nil _⟩ ?_ ?_
   . rintro i σ H3 N hN hi ⟨ps,rs,rows,v4,v5,v6,v7,v8,rfl,s3,hl3,ro3,R,P⟩;have k0:(1:Int)<=1+(i:Int):=(by omega);have k1:1+(i:Int)<m:=(by omega);generalize hk:(1:Int)+(i:Int)=kk at k0 k1 ⊢;have psl:ps.length=rs.length:=Paired.length ro3;have rl:=R.len;have pl:=P.len;walk_at "rd";refine ⟨a,ns,kk,rfl,Same.seq s3 ha,by omega,by omega,fun c c0=>?_⟩;have em:∀ (x n:Int),0<n->0<=x % n/\x % n<n:=fun x n h=>⟨bE x (kX h),bO x h⟩;have hg:=em c kk (by omega);have cp9:VY 10 9:=⟨by decide,by decide,by decide⟩;have e9:(10:Int)^Int.toNat 9=1000000000:=(by decide);have e18:(10:Int)^Int.toNat 18=1000000000000000000:=(by decide);have e19:(10:Int)^Int.toNat 19=10000000000000000000:=(by decide);refine ⟨c,rfl,by omega,c,rfl,by omega,cu (by simp),fun q1 hq1=>?_⟩;have s4:=Same.new (.lst [.int (c % kk),.int (kk - 1),.int 0,.int (c % kk)]) hq1;obtain ⟨un,hun,u0,u1⟩:∃ un:Int,atI [V.int (c % kk),V.int (kk - 1),V.int 0,V.int (c % kk)] sh=some (.int un)/\0<=un/\un<kk:=by
       rcases (show sh=0\/sh=1\/sh=2\/sh=3 by omega) with z|z|z|z
       . exact ⟨_,by rw [z];rfl,hg.1,hg.2⟩
       . exact ⟨_,by rw [z];rfl,by omega,by omega⟩
       . exact ⟨_,by rw [z];rfl,by omega,by omega⟩
       . exact ⟨_,by rw [z];rfl,hg.1,hg.2⟩
     refine ixL ao hun ?_;generalize upd H3 q1 (.lst [.int (c % kk),.int (kk - 1),.int 0,.int (c % kk)])=H4 at s4 ⊢;rw [e9,e18,e19];refine ⟨c,rfl,⟨by omega,by omega⟩,cp9,by decide,_,rfl,fun th t0 t1=>⟨cp9,⟨by decide,by decide⟩,cp9,by decide,_,rfl,fun bk b0 b1=>⟨⟨by decide,by decide,by decide⟩,⟨by decide,by decide⟩,by decide,?_⟩⟩⟩;have hl4:=s4 _ _ hl3;have ro4:=RoadsAt.same s4 ro3;have lu:=EI (n:=m.toNat) u0 (by omega);have lk:=EI (n:=m.toNat) (show 0<=kk by omega) (by omega);have keep:∀ {H7:Hp} {zs:List V} {q:Addr} {r':Road},Same H3 H7->H7 q=some (.tup (pX r'))->upd H7 lo (.lst zs) q=some (.tup (pX r')):=fun {H7 zs q r'} s7 h=>by rw [aX (oW h (s7 _ _ hl3) (by intro z;cases z))];exact h
     have fin:∀ (H7:Hp) (q:Addr) (row:Row) (n:Nat) (v5 v6 v7 v8:Option V),Same H3 H7->row.k=kk->RowOk row->H7 q=some (.tup (pX (mI (below m.toNat) row)))->N [some (V.ref a),some (V.int m),some (V.int sh),some (V.ref lo),some (V.int kk),v5,v6,v7,v8] (upd H7 lo (.lst ((ps.take n++q::ps.drop n).map V.ref))):=by
       intro H7 q row n v5 v6 v7 v8 s7 rk rok hq;refine hN _ _ ⟨_,rs.take n++mI (below m.toNat) row::rs.drop n,rows++[row],_,_,_,_,_,rfl,(s3.trans s7).put nlo _,ao,?_,Qv R (by omega) rok,P.step row n⟩;exact VI n (Paired.imp' (fun p r h=>keep s7 h) (RoadsAt.same s7 ro3)) (keep s7 hq)
     have app:∀ (H7:Hp) (q:Addr) (row:Row) (v5 v6 v7 v8:Option V),Same H3 H7->row.k=kk->RowOk row->H7 q=some (.tup (pX (mI (below m.toNat) row)))->rAppend (V.ref lo) [V.ref q] H7 fun _ H1=>N [some (V.ref a),some (V.int m),some (V.int sh),some (V.ref lo),some (V.int kk),v5,v6,v7,v8] H1:=fun H7 q row v5 v6 v7 v8 s7 rk rok hq=>by
       refine tD (s7 _ _ hl3) (eT (by rw [ai];omega)) ?_;have:=fin H7 q row ps.length v5 v6 v7 v8 s7 rk rok hq;rw [bx,lH,aA] at this;exact this
     have ins:∀ (H7:Hp) (q:Addr) (row:Row) (v5 v6 v7 v8:Option V),Same H3 H7->row.k=kk->RowOk row->H7 q=some (.tup (pX (mI (below m.toNat) row)))->rInsert (V.ref lo) [V.int 0,V.ref q] H7 fun _ H1=>N [some (V.ref a),some (V.int m),some (V.int sh),some (V.ref lo),some (V.int kk),v5,v6,v7,v8] H1:=fun H7 q row v5 v6 v7 v8 s7 rk rok hq=>by
       refine WQ (s7 _ _ hl3) (bh _) (by omega) (eT (by rw [ai];omega)) ?_;have:=fin H7 q row 0 v5 v6 v7 v8 s7 rk rok hq;rw [dJ,mY,f9] at this;exact this
     have e1:∀ x y:Int,pX (mI (below m.toNat) ⟨kk,un,x,y,1,0⟩)=[V.int un,V.int kk,V.int x,V.int y]:=fun x y=>by
       unfold mI;rw [ag rfl];show [V.int ((below m.toNat).getD un.toNat 0),V.int ((below m.toNat).getD kk.toNat 0),V.int x,V.int y]=_;rw [lu,lk]
     have e2:∀ x y:Int,pX (mI (below m.toNat) ⟨kk,un,x,y,0,0⟩)=[V.int kk,V.int un,V.int x,V.int y]:=fun x y=>by
       unfold mI;rw [aa (show ¬ (0:Int)=1 by decide)];show [V.int ((below m.toNat).getD kk.toNat 0),V.int ((below m.toNat).getD un.toNat 0),V.int x,V.int y]=_;rw [lu,lk]
     have okR:∀ (x y w:Int),2<=x->x<=1000000->2<=y->y<=1000000->RowOk ⟨kk,un,x,y,w,0⟩:=fun x y w a b c d=>⟨u0,u1,a,b,c,d,bh _,by show (0:Int)<kk;omega⟩;have both:∀ (th bk:Int) (v5 v7 v8:Option V),2<=th->th<=1000000->2<=bk->bk<=1000000->(tyV K "list" (V.ref lo) H4/\[V.int un,V.int kk,V.int th,V.int bk].length<=sizeLine/\∀ p,H4 p=none->rAppend (V.ref lo) [V.ref p] (upd H4 p (.tup [V.int un,V.int kk,V.int th,V.int bk])) fun _ H1=>N [some (V.ref a),some (V.int m),some (V.int sh),some (V.ref lo),some (V.int kk),v5,some (V.int un),v7,v8] H1)/\(tyV K "list" (V.ref lo) H4/\[V.int kk,V.int un,V.int bk,V.int th].length<=sizeLine/\∀ p,H4 p=none->rInsert (V.ref lo) [V.int 0,V.ref p] (upd H4 p (.tup [V.int kk,V.int un,V.int bk,V.int th])) fun _ H1=>N [some (V.ref a),some (V.int m),some (V.int sh),some (V.ref lo),some (V.int kk),v5,some (V.int un),v7,v8] H1):=fun th bk v5 v7 v8 t0 t1 b0 b1 =>
       ⟨⟨tyL hl4,cu (by simp),fun p hp=>app _ p ⟨kk,un,th,bk,1,0⟩ _ _ _ _ (s4.trans (Same.new _ hp)) rfl (okR _ _ _ t0 t1 b0 b1) (by rw [ao,e1])⟩,⟨tyL hl4,cu (by simp),fun p hp=>ins _ p ⟨kk,un,bk,th,0,0⟩ _ _ _ _ (s4.trans (Same.new _ hp)) rfl (okR _ _ _ b0 b1 t0 t1) (by rw [ao,e2])⟩⟩
     by_cases y1:c / kk / 1000000000000000000 % 3=0
     . rw [ag y1];refine ⟨⟨by decide,by decide,by decide⟩,⟨by decide,by decide⟩,by decide,?_⟩;by_cases y2:c / kk / 10000000000000000000 % 2=0
       . rw [ag y2];exact (both th th _ _ _ t0 t1 t0 t1).1
       . rw [aa y2];exact (both th th _ _ _ t0 t1 t0 t1).2
     . rw [aa y1];refine ⟨⟨by decide,by decide,by decide⟩,⟨by decide,by decide⟩,by decide,?_⟩;by_cases y2:c / kk / 10000000000000000000 % 2=0
       . rw [ag y2];exact (both th bk _ _ _ t0 t1 b0 b1).1
       . rw [aa y2];exact (both th bk _ _ _ t0 t1 b0 b1).2
   . rintro σ H3 ⟨ps,rs,rows,v4,v5,v6,v7,v8,rfl,s3,hl3,ro3,R,P⟩;have g:=UT (n:=m.toNat) (by omega) (by omega) (KP _) (by rw [show m.toNat - 1=(m - 1).toNat by omega];exact R) P;rw [fm (by omega)] at g;walk_at "rd";exact k lo ps rs H3 nlo s3 hl3 ro3 g
def FD (T:Txt K mg):Sp:=fun vs H Q _=>∃ (a:Addr) (ns:List Int) (z:Int),vs=[.ref a,.int z]/\SqL K H a (ns.map V.int)/\1<=z/\z<=24 /\
 ∀ (t l:Addr) (m:Int) (ps:List Addr) (rs:List Road) (H':Hp),H t=none->H l=none->Same H H'->H' t=some (.tup [.int m,.ref l])->H' l=some (.lst (ps.map V.ref))->RoadsAt H' ps rs->Good m rs->Q (.ref t) H'
abbrev fY:Stmt:=top 43
theorem uU:FnScope ["script","reach","head","many"] ["script","reach"] (ae fY):=FnScope.of (by kernel_rfl)
theorem uG:NmL (ae fY) "script":=.of (by kernel_rfl)
theorem rh:NmL (ae fY) "reach":=.of (by kernel_rfl)
theorem kW:NmL (ae fY) "head":=.of (by kernel_rfl)
theorem oO:NmL (ae fY) "many":=.of (by kernel_rfl)
theorem sD:NmG (ae fY) "_law_drawn":=.of (by kernel_rfl)
theorem r6:NmG (ae fY) "_law_roads":=.of (by kernel_rfl)
theorem Np (T:Txt K mg) (hq:cR (CXe P w)) {f:Addr} {fd:FuncData} (D:Df K mg "_law_web" fY ["script","reach"] f fd) {cC:Addr} {c6:FuncData} (bj:Df K mg "_law_drawn" cU ["script","k"] cC c6) (cQ:FnOk P w K mg base (CXe P w) 1 cC c6 ["script","k"] (jP T)) {lO:Addr} {BF:FuncData} (nX:Df K mg "_law_roads" cP ["script","many","shape"] lO BF) (xA:FnOk P w K mg base (CXe P w) 2 lO BF ["script","many","shape"] (Cq T)):FnOk P w K mg base (CXe P w) 3 f fd ["script","reach"] (FD T):=by
 refine D.F.okC uU (fun vs H Q E h=>?_) (fun cdv A outer s H vs Q E hr h=>?_)
 . obtain ⟨a,ns,z,rfl,_⟩:=h
   rfl
 . obtain ⟨a,ns,z,rfl,ha,z1,z24,k⟩:=h;refine ⟨_,(ay (bp (i:=2) uU.nd rfl (Or.inl kW.l) (bd gA (aZ cQ (hr.mono (by decide)) sD.g bj.m bj.F.kp bj.b .nil (cI hq) (ah (pvl 0 uG) (ah aF am)) (hdb:=sD.d)) aF)) (ay (bp (i:=3) uU.nd rfl (Or.inl oO.l) (bd nP aF (bd dY (pvl 2 kW) (pvl 1 rh)))) (ay (dj (bW jB (bd dY (bd gA (pvl 2 kW) (pvl 1 rh)) aF) aF (bK _)) (aM (bp (i:=3) uU.nd rfl (Or.inl oO.l) (bd nP aF (bd dY (bd gA (pvl 2 kW) (bd pC aF (pvl 1 rh))) aF)))) b5) (aM (bR (fJ (ah (pvl 3 oO) (ah (aZ xA (hr.mono (by decide)) r6.g nX.m nX.F.kp nX.b .nil (cI hq) (ah (pvl 0 uG) (ah (pvl 3 oO) (ah (bd dY (bd gA (pvl 2 kW) aF) aF) am))) (hdb:=r6.d)) am)))))))),?_⟩;rw [show L2.start ["script","reach","head","many"] [V.ref a,V.int z]=[some (V.ref a),some (V.int z),none,none] from rfl];have em:∀ (x n:Int),0<n->0<=x % n/\x % n<n:=fun x n h=>⟨bE x (kX h),bO x h⟩;walk_at "rd";refine ⟨a,ns,0,rfl,ha,by decide,by decide,fun c c0=>⟨c,rfl,⟨by decide,by decide⟩,by omega,⟨by omega,by omega⟩,by decide,?_⟩⟩;have h1:=em (c / 2) z (by omega);have h2:=em (c / 2 / (12*z)) 24 (by decide);have h3:=em (c / 2 / 300) 4 (by decide);apply UV (1+c / 2 / (12*z) % 24) (1+c / 2 % z)
   . generalize 1+c / 2 % z=m;intro h;exact h
   . exact fun h=>⟨.inl ⟨by decide,by decide⟩,⟨by omega,by omega⟩,by decide,h⟩
   intro m hm;have m1:1<=m:=by omega
   have m24:m<=24:=by omega
   clear hm;refine ⟨⟨by decide,by decide⟩,by decide,?_⟩;refine ⟨a,ns,m,_,rfl,ha,m1,m24,h3.1,h3.2,fun l ps rs H1 nl s1 el ro g=>⟨cu (by simp),fun t nt=>?_⟩⟩;have s2:=Same.new (.tup [.int m,.ref l]) nt;exact k t l m ps rs _ (s1.free nt) nl (s1.trans s2) ao (s2 _ _ el) (RoadsAt.same s2 ro) g
def DF (T:Txt K mg):Sp:=fun vs H Q _=>∃ (a:Addr) (ns:List Int) (m b:Int),vs=[.ref a,.int m,.int b]/\SqL K H a (ns.map V.int)/\ns.length<=63/\1<=m/\m<=24/\1<=b/\∀ (l:Addr) (xs:List Int) (H':Hp),H l=none->Same H H'->H' l=some (.lst (xs.map V.int))->(xs.length:Int)=m->(∀ x∈xs,0<=x)->Q (.ref l) H'
abbrev d3:Stmt:=top 50
theorem tX:FnScope ["script","many","bound","wish","k","place"] ["script","many","bound"] (ae d3):=FnScope.of (by kernel_rfl)
theorem pH:NmL (ae d3) "script":=.of (by kernel_rfl)
theorem nu:NmL (ae d3) "many":=.of (by kernel_rfl)
theorem CV:NmL (ae d3) "bound":=.of (by kernel_rfl)
theorem rj:NmL (ae d3) "wish":=.of (by kernel_rfl)
theorem nN:NmL (ae d3) "k":=.of (by kernel_rfl)
theorem uN:NmL (ae d3) "place":=.of (by kernel_rfl)
theorem CP:NmG (ae d3) "range":=.of (by kernel_rfl)
theorem sF:NmG (ae d3) "len":=.of (by kernel_rfl)
theorem iZ:NmG (ae d3) "_law_drawn":=.of (by kernel_rfl)
theorem Ms (T:Txt K mg) (hq:cR (CXe P w)) {f:Addr} {fd:FuncData} (D:Df K mg "_law_wish" d3 ["script","many","bound"] f fd) {cC:Addr} {c6:FuncData} (bj:Df K mg "_law_drawn" cU ["script","k"] cC c6) (cQ:FnOk P w K mg base (CXe P w) 1 cC c6 ["script","k"] (jP T)):FnOk P w K mg base (CXe P w) 2 f fd ["script","many","bound"] (DF T):=by
 refine D.F.okC tX (fun vs H Q E h=>?_) (fun cdv A outer s H vs Q E hr h=>?_)
 . obtain ⟨a,ns,m,b,rfl,_⟩:=h
   rfl
 . obtain ⟨a,ns,m,b,rfl,ha,hn,m0,m1,b0,k⟩:=h;refine ⟨_,(ay (bp (i:=3) tX.nd rfl (Or.inl rj.l) (bd JP (gZ (ah aF am)) (pvl 1 nu))) (ay (hZ PassesOwn.never rfl (BI CP.g T.range (ah (pvl 1 nu) (ah (c8 fE sF.g T.len mt (ah (pvl 0 pH) am) (hn:=sF.n) (hdb:=sF.d)) am))) (bJ (i:=4) tX.nd rfl (Or.inl nN.l)) (aM (dj (bW jB (bd dY (pvl 4 nN) aF) aF (bK _)) (ay (bp (i:=5) tX.nd rfl (Or.inl uN.l) (bd dY (aZ cQ (hr.mono (by decide)) iZ.g bj.m bj.F.kp bj.b .nil (cI hq) (ah (pvl 0 pH) (ah (pvl 4 nN) am)) (hdb:=iZ.d)) (pvl 1 nu))) (aM (ph (bd dY (bd gA (aZ cQ (hr.mono (by decide)) iZ.g bj.m bj.F.kp bj.b .nil (cI hq) (ah (pvl 0 pH) (ah (pvl 4 nN) am)) (hdb:=iZ.d)) (pvl 1 nu)) (bI b6 (gZ (ah (pvl 2 CV) (ah aF (ah aF am)))) (bd dY (bd gA (pvl 4 nN) aF) aF) (fun _ _=>rfl))) (rQ (pvl 3 rj) (pvl 5 uN) lQ)))) b5))) (aM (bR (pvl 3 rj))))),?_⟩;rw [show L2.start ["script","many","bound","wish","k","place"] [V.ref a,V.int m,V.int b]=[some (V.ref a),some (V.int m),some (V.int b),none,none,none] from rfl];walk_at "rd";refine ⟨cu (by simp),fun l0 n0=>?_⟩;refine ⟨l0,m,_,rfl,rfl,ao,by omega,by omega,cu (by simp;omega),fun l n1=>?_⟩;rw [TZ];have s0:Same H (upd H l0 (.lst [.int 0])):=Same.new _ n0;have s1:=s0.trans (Same.new (.lst (List.replicate m.toNat (V.int 0))) n1);have nl:=s0.free n1;refine ⟨_,.inl (Same.seq s1 ha),m,_,⟨rfl,rfl⟩,⟨by omega,by omega,by omega,by rw [ai];omega⟩,?_⟩;rw [ai];have e1:upd (upd H l0 (.lst [.int 0])) l (.lst (List.replicate m.toNat (V.int 0))) l=some (.lst ((List.replicate m.toNat (0:Int)).map V.int)):=by rw [ao,List.map_replicate]
   generalize upd (upd H l0 (.lst [.int 0])) l (.lst (List.replicate m.toNat (V.int 0)))=H1 at s1 e1 ⊢;refine uP (fun i σ H2=>Same H H2/\∃ (xs:List Int) (v4 v5:Option V),H2 l=some (.lst (xs.map V.int))/\(xs.length:Int)=m/\(∀ x∈xs,0<=x)/\σ=[some (.ref a),some (.int m),some (.int b),some (.ref l),v4,v5]) ⟨s1,_,_,_,e1,by rw [c7];omega,fun x hx=>by rw [(List.mem_replicate.mp hx).2];decide,rfl⟩ ?_ ?_
   . rintro i σ H2 N hN hi ⟨s2,xs,v4,v5,e2,xl,x0,rfl⟩;have i0:0<=m+(i:Int):=(by omega);have i1:m+(i:Int)<=1000:=(by omega);generalize m+(i:Int)=j at i0 i1 ⊢;have sa:=Same.seq s2 ha;walk_at "rd";refine ⟨by decide,?_⟩;by_cases z:j % 2=1
     . rw [ag z];refine ⟨a,ns,j,rfl,sa,i0,i1,fun c c0=>⟨c,rfl,by omega,?_⟩⟩;have h1:=bE c (show m≠0 by omega);have h2:=bO c (show 0<m by omega);generalize c % m=p at h1 h2 ⊢;refine ⟨a,ns,j,rfl,sa,i0,i1,fun c' c0'=>?_⟩;refine ⟨c',rfl,⟨by omega,by omega⟩,cu (by simp),fun q nq=>⟨⟨by decide,by decide⟩,by decide,?_⟩⟩;have s3:=Same.new (.lst [V.int b,V.int 3,V.int 2]) nq;obtain ⟨w,hw,w0⟩:∃ w:Int,atI [V.int b,V.int 3,V.int 2] (j / 2 % 3)=some (.int w)/\0<w:=by
         rcases (show j / 2 % 3=0\/j / 2 % 3=1\/j / 2 % 3=2 by omega) with z|z|z
         . exact ⟨_,by rw [z];rfl,b0⟩
         . exact ⟨_,by rw [z];rfl,by decide⟩
         . exact ⟨_,by rw [z];rfl,by decide⟩
       refine ixL ao hw ⟨w,rfl,w0,BM (s3 _ _ e2) h1 (by rw [ai];omega) (hN _ _ ⟨(s2.trans s3).put nl _,xs.set p.toNat (c' / m % w),_,_,by rw [ao,d8],by rw [bN];exact xl,yU x0 (bE _ (by omega)),rfl⟩)⟩
     . rw [aa z];exact hN _ _ ⟨s2,xs,_,_,e2,xl,x0,rfl⟩
   . rintro σ H2 ⟨s2,xs,v4,v5,e2,xl,x0,rfl⟩;exact ⟨_,rfl,k l xs H2 nl s2 e2 xl x0⟩
theorem JC {α β:Type} {f:α->β}:∀ {l:List α},l.Nodup->(∀ a∈l,∀ b∈l,f a=f b->a=b)->(l.map f).Nodup
 | [],_,_=>iX
 | a::l,h,hf=>by
   obtain ⟨h1,h2⟩:=aE.mp h;refine aE.mpr ⟨fun z=>?_,JC h2 fun x hx y hy=>hf x (.tail _ hx) y (.tail _ hy)⟩;obtain ⟨b,hb,e⟩:=aY.mp z;exact h1 (hf b (.tail _ hb) a (.head _) e ▸ hb)
def rdP (par:Int->Int) (v:Int):List Int:=[min v (par v),max v (par v)]
theorem MY {m r:Int} {rs:List Road} {par:Int->Int} {tl:List Int} (O:Order m r par tl) (st:Int->Int):(tl.reverse.filter (xk rs par st)++tl.filter (vB st)).Nodup/\∀ v∈tl.reverse.filter (xk rs par st)++tl.filter (vB st),v∈tl:=by
 have nd:=(aE.mp O.nd).2;refine ⟨b7.mpr ⟨nM _ ((List.reverse_perm tl).nodup_iff.mpr nd),nM _ nd,fun a ha b hb z=>?_⟩,fun v hv=>?_⟩
 . subst z;have h1:=(bG.mp ha).2;have h2:=(bG.mp hb).2;unfold xk je at h1;unfold vB at h2;have h2':=bP h2;rw [aa (by omega)] at h1;exact absurd (bP h1) (by decide)
 . rcases aQ.mp hv with z|z
   . exact di.mp (bG.mp z).1
   . exact (bG.mp z).1
theorem Vm {m r:Int} {rs:List Road} {par:Int->Int} {tl:List Int} (O:Order m r par tl) (st:Int->Int):(fU rs par st tl.reverse++iU par st tl).length<=tl.length:=by
 obtain ⟨h1,h2⟩:=MY (rs:=rs) O st;have:=nodup_le h1 h2;unfold fU iU;rw [aH,ai,ai];rw [aH] at this;exact this
/-- no road is gone twice -/
theorem Sl {m r:Int} {rs:List Road} {par:Int->Int} {dep:Int->Nat} (R:Rooted m rs r par dep) {tl:List Int} (O:Order m r par tl) (st:Int->Int):((fU rs par st tl.reverse++iU par st tl).map rdS).Nodup:=by
 have e:(fU rs par st tl.reverse++iU par st tl).map rdS=(tl.reverse.filter (xk rs par st)++tl.filter (vB st)).map (rdP par):=by
   unfold fU iU;rw [aA,aA,oG,oG]
   congr 1
   refine fo fun v _=>?_;show [min (par v) v,max (par v) v]=[min v (par v),max v (par v)];rw [Int.min_comm,Int.max_comm]
 rw [e];obtain ⟨h1,h2⟩:=MY (rs:=rs) O st;refine JC h1 fun a ha b hb z=>?_;have pa:=O.places a (h2 a ha);have pb:=O.places b (h2 b hb);unfold rdP at z;injection z with z1 z2
 injection z2 with z2 _
 refine Classical.byContradiction fun n=>?_;have h:a=par b/\b=par a:=by omega
 have d1:=(R.up a pa.1.1 pa.1.2 pa.2).2.2;have d2:=(R.up b pb.1.1 pb.1.2 pb.2).2.2;rw [<- h.2] at d1;rw [<- h.1] at d2;omega
def HV (K:PySem.W.Frag):Sp:=fun vs H Q _=>∃ (a:Addr) (ns:List Int),vs=[.ref a]/\SqL K H a (ns.map V.int)/\ns.length<=63/\∀ H',Q (.bl true) H'
def Vh (T:Txt K mg):Sp:=HV K
abbrev cS:Stmt:=top 56
theorem mi:FnScope ["script","many","roads","web","tolls","bound","laying","wish","handed","due","found","lacks","kept"] ["script"] (ae cS):=FnScope.of (by kernel_rfl)
theorem nJ:NmL (ae cS) "script":=.of (by kernel_rfl)
theorem nS:NmC (ae cS) "many":=.of (by kernel_rfl)
theorem vQ:NmL (ae cS) "roads":=.of (by kernel_rfl)
theorem sv:NmL (ae cS) "web":=.of (by kernel_rfl)
theorem wy:NmC (ae cS) "tolls":=.of (by kernel_rfl)
theorem wA:NmL (ae cS) "bound":=.of (by kernel_rfl)
theorem jh:NmC (ae cS) "laying":=.of (by kernel_rfl)
theorem lF:NmC (ae cS) "wish":=.of (by kernel_rfl)
theorem gn:NmL (ae cS) "handed":=.of (by kernel_rfl)
theorem uV:NmL (ae cS) "due":=.of (by kernel_rfl)
theorem fH:NmL (ae cS) "found":=.of (by kernel_rfl)
theorem vq:NmL (ae cS) "lacks":=.of (by kernel_rfl)
theorem Du:NmL (ae cS) "kept":=.of (by kernel_rfl)
theorem yE:NmG (ae cS) "_law_web":=.of (by kernel_rfl)
theorem EC:NmG (ae cS) "Web":=.of (by kernel_rfl)
theorem fP:NmG (ae cS) "list":=.of (by kernel_rfl)
theorem vl:NmG (ae cS) "_law_tolls":=.of (by kernel_rfl)
theorem wj:NmG (ae cS) "_law_bound":=.of (by kernel_rfl)
theorem uF:NmG (ae cS) "_law_laying":=.of (by kernel_rfl)
theorem wG:NmG (ae cS) "_law_wish":=.of (by kernel_rfl)
theorem wH:NmG (ae cS) "_law_edge":=.of (by kernel_rfl)
theorem rB:NmG (ae cS) "_law_tuples_too":=.of (by kernel_rfl)
theorem Ju:NmG (ae cS) "range":=.of (by kernel_rfl)
theorem pQ:NmG (ae cS) "meeting":=.of (by kernel_rfl)
theorem g5:NmG (ae cS) "isinstance":=.of (by kernel_rfl)
theorem gY:NmG (ae cS) "tuple":=.of (by kernel_rfl)
theorem Ag:NmG (ae cS) "len":=.of (by kernel_rfl)
theorem Az:NmG (ae cS) "is_met":=.of (by kernel_rfl)
theorem zb:NmG (ae cS) "all":=.of (by kernel_rfl)
theorem zG:NmG (ae cS) "min":=.of (by kernel_rfl)
theorem qh:NmG (ae cS) "_law_steps_formed":=.of (by kernel_rfl)
theorem uB:NmG (ae cS) "_law_covers":=.of (by kernel_rfl)
theorem wI:NmG (ae cS) "_law_done":=.of (by kernel_rfl)
theorem Vr (T:Txt K mg) (hq:cR (CXe P w)) {f:Addr} {fd:FuncData} (D:Df K mg "law" cS ["script"] f fd) {f_Web___init__:Addr} {rO:FuncData} (pT:Fun K "__init__" "Web.__init__" cF f_Web___init__ rO) (O0:Binds K rO ["self","many","roads"] []) (NZ:Mk K T.Web f_Web___init__) (G_Web_init:FnOk P w K mg base (CXe P w) 3 f_Web___init__ rO ["self","many","roads"] (sE T)) {lK:Addr} {Bn:FuncData} (og:Df K mg "_law_bound" gd ["script"] lK Bn) (xC:FnOk P w K mg base (CXe P w) 2 lK Bn ["script"] (Cl T)) {jM:Addr} {AM:FuncData} (mG:Df K mg "_law_covers" dZ ["held","wish"] jM AM) (vh:FnOk P w K mg base (CXe P w) 1 jM AM ["held","wish"] (AL T)) {nG:Addr} {DM:FuncData} (qf:Df K mg "_law_done" eA ["tolls","laying","steps"] nG DM) (zj:FnOk P w K mg base (CXe P w) 1 nG DM ["tolls","laying","steps"] (DN T)) {mX:Addr} {DK:FuncData} (pV:Df K mg "_law_edge" dI ["script","tolls","many","laying","wish"] mX DK) (zM:FnOk P w K mg base (CXe P w) 3 mX DK ["script","tolls","many","laying","wish"] (Db T)) {j7:Addr} {Ay:FuncData} (mD:Df K mg "_law_laying" c9 ["script","many","bound"] j7 Ay) (vz:FnOk P w K mg base (CXe P w) 2 j7 Ay ["script","many","bound"] (Aw T)) {eE:Addr} {j8:FuncData} (d4:Df K mg "_law_standings" bF ["tolls","many","laying","wish","r"] eE j8) (ja:FnOk P w K mg base (CXe P w) 2 eE j8 ["tolls","many","laying","wish","r"] (rp T)) {fD:Addr} {sP:FuncData} (gF:Df K mg "_law_steps_formed" bt ["steps"] fD sP) (pG:FnOk P w K mg base (CXe P w) 2 fD sP ["steps"] (sS T)) {lB:Addr} {B0:FuncData} (nV:Df K mg "_law_tolls" eF ["roads"] lB B0) (xV:FnOk P w K mg base (CXe P w) 1 lB B0 ["roads"] (BG T)) {gs:Addr} {uM:FuncData} (h9:Df K mg "_law_tuples_too" cw ["web","laying","wish"] gs uM) (rn:FnOk P w K mg base (CXe P w) 12 gs uM ["web","laying","wish"] (uJ T)) {pi:Addr} {ER:FuncData} (rE:Df K mg "_law_web" fY ["script","reach"] pi ER) (Cf:FnOk P w K mg base (CXe P w) 3 pi ER ["script","reach"] (FD T)) {gQ:Addr} {pN:FuncData} (gf:Df K mg "_law_whole" eV ["number"] gQ pN) (oh:FnOk P w K mg base (CXe P w) 1 gQ pN ["number"] (vE T)) {nF:Addr} {Dx:FuncData} (p4:Df K mg "_law_wish" d3 ["script","many","bound"] nF Dx) (zX:FnOk P w K mg base (CXe P w) 2 nF Dx ["script","many","bound"] (DF T)) {ic:Addr} {mO:FuncData} (fW:Df K mg "is_met" gU ["web","laying","wish"] ic mO) (m7:FnOk P w K mg base (CXe P w) 10 ic mO ["web","laying","wish"] (wV T)) {jI:Addr} {sI:FuncData} (eG:Df K mg "meeting" fb ["web","laying","wish"] jI sI) (mS:FnOk P w K mg base (CXe P w) 11 jI sI ["web","laying","wish"] (zS T)):FnOk P w K mg base (CXe P w) 13 f fd ["script"] (Vh T):=by
 refine D.F.okC mi (fun vs H Q E h=>?_) (fun cdv A outer s H vs Q E hr h=>?_)
 . obtain ⟨a,ns,rfl,_⟩:=h
   rfl
 . obtain ⟨a,ns,rfl,ha,hn,k⟩:=h;have hv:=hr.units;have hu:=wY hr;refine ⟨_,(ay (ph (aZ Cf (hr.mono (by decide)) yE.g rE.m rE.F.kp rE.b .nil (cI hq) (ah (pvl 0 nJ) (ah aF am)) (hdb:=yE.d)) (sg (n:=2) rfl (dE (bJ (i:=1) mi.nd rfl (Or.inr nS.l)) (dE (bJ (i:=2) mi.nd rfl (Or.inl vQ.l)) qe)))) (ay (bp (i:=3) mi.nd rfl (Or.inl sv.l) (Um NZ G_Web_init (hr.mono (by decide)) EC.g T.Wo O0 .nil (cI hq) (ah (pvc 1 nS) (ah (fK oZ fP.g T.list va (ah (pvl 2 vQ) am) (hn:=fP.n) (hdb:=fP.d)) am)) (hdb:=EC.d))) (ay (bp (i:=4) mi.nd rfl (Or.inr wy.l) (aZ xV (hr.mono (by decide)) vl.g nV.m nV.F.kp nV.b .nil (cI hq) (ah (pvl 2 vQ) am) (hdb:=vl.d))) (ay (bp (i:=5) mi.nd rfl (Or.inl wA.l) (aZ xC (hr.mono (by decide)) wj.g og.m og.F.kp og.b .nil (cI hq) (ah (pvl 0 nJ) am) (hdb:=wj.d))) (ay (bp (i:=6) mi.nd rfl (Or.inr jh.l) (aZ vz (hr.mono (by decide)) uF.g mD.m mD.F.kp mD.b .nil (cI hq) (ah (pvl 0 nJ) (ah (pvc 1 nS) (ah (pvl 5 wA) am))) (hdb:=uF.d))) (ay (bp (i:=7) mi.nd rfl (Or.inr lF.l) (aZ zX (hr.mono (by decide)) wG.g p4.m p4.F.kp p4.b .nil (cI hq) (ah (pvl 0 nJ) (ah (pvc 1 nS) (ah (pvl 5 wA) am))) (hdb:=wG.d))) (ay (eK (aZ zM (hr.mono (by decide)) wH.g pV.m pV.F.kp pV.b .nil (cI hq) (ah (pvl 0 nJ) (ah (pvc 4 wy) (ah (pvc 1 nS) (ah (pvc 6 jh) (ah (pvc 7 lF) am))))) (hdb:=wH.d))) (ay (bp (i:=8) mi.nd rfl (Or.inl gn.l) (gZ (ah (fK oZ fP.g T.list va (ah (pvc 6 jh) am) (hn:=fP.n) (hdb:=fP.d)) (ah (fK oZ fP.g T.list va (ah (pvc 7 lF) am) (hn:=fP.n) (hdb:=fP.d)) am)))) (ay (dj (jo (jU (aZ rn (hr.mono (by decide)) rB.g h9.m h9.F.kp h9.b .nil (cI hq) (ah (pvl 3 sv) (ah (pvc 6 jh) (ah (pvc 7 lF) am))) (hdb:=rB.d)))) (aM (bR uR)) b5) (ay (Aa (i:=9) mi.nd rfl uV.l rfl (tG (Nc:=["r","tolls","many","laying","wish"]) 1 [4,1,6,7] (by decide +kernel) rfl (by decide +kernel) rfl (by show ∀ (y:Str × NameKind),y∈_->y.2=NameKind.free->(ae cS).names.lookup y.1=some NameKind.cell;decide +kernel) rfl (fun _ h=>nC h) (fun i hi=>match i,hi with|0,_=>⟨"tolls",4,rfl,rfl,rfl,by decide +kernel⟩|1,_=>⟨"many",1,rfl,rfl,rfl,by decide +kernel⟩|2,_=>⟨"laying",6,rfl,rfl,rfl,by decide +kernel⟩|3,_=>⟨"wish",7,rfl,rfl,rfl,by decide +kernel⟩|i+4,hi=>absurd hi (by show ¬ i+4<4;omega))) (rF Ju.g T.range (ah (pvc 1 nS) am)) (fun _ _ _ _=>(bJ (i:=0) (show (["r","tolls","many","laying","wish"]:List Str).Nodup from by decide +kernel) rfl (Or.inl rfl))) (fun _ _ _ _=>oq) (fun _ _ _ _=>(bI (Am K rfl) (aZ ja (hr.mono (by decide)) (by rfl) d4.m d4.F.kp d4.b .nil (cI hq) (ah (pv 1) (ah (pv 2) (ah (pv 3) (ah (pv 4) (ah (pv 0) am)))))) (pv 0) (fun _ _=>rfl)))) (ay (bp (i:=10) mi.nd rfl (Or.inl fH.l) (aZ mS (hr.mono (by decide)) pQ.g eG.m eG.F.kp eG.b .nil (cI hq) (ah (pvl 3 sv) (ah (bI b6 (pvl 8 gn) aF (fun _ _=>rfl)) (ah (bI b6 (pvl 8 gn) aF (fun _ _=>rfl)) am))) (hdb:=pQ.d))) (ay (dj (PW.pt (uQ (jo (jU (c8 nR g5.g T.isinstance kM (ah (pvl 10 fH) (ah (vb (v:=.ty "tuple") gY.g T.tuple ie rfl (hn:=gY.n) (hd:=gY.d)) am)) (hn:=g5.n) (hdb:=g5.d)))) (uQ (bW tV (c8 fE Ag.g T.len mt (ah (pvl 10 fH) am) (hn:=Ag.n) (hdb:=Ag.d)) aF (bK _)) (yp (bW tV (aZ m7 (hr.mono (by decide)) Az.g fW.m fW.F.kp fW.b .nil (cI hq) (ah (pvl 3 sv) (ah (bI b6 (pvl 8 gn) aF (fun _ _=>rfl)) (ah (bI b6 (pvl 8 gn) aF (fun _ _=>rfl)) am))) (hdb:=Az.d)) (i9 CC (bI b6 (pvl 9 uV) aF (fun _ _=>rfl)) aF (bK _)) (bK _)))))) (aM (bR uR)) b5) (ay (dj (bW uO (bI b6 (pvl 9 uV) aF (fun _ _=>rfl)) aF (bK _)) (ay (bp (i:=11) mi.nd rfl (Or.inl vq.l) (fK fN gY.g T.tuple ie (ah (pO rfl (vV (Nc:=["number"]) 1 (by decide +kernel) (by decide +kernel) rfl (by decide +kernel) rfl) (p7 (pvl 9 uV)) (fun _ _ _ _=>(bJ (i:=0) (show (["number"]:List Str).Nodup from by decide +kernel) rfl (Or.inl rfl))) (fun _ _ _ _=>oq) (fun _ _ _ _=>(bd qN aF (pv 0)))) am) (hn:=gY.n) (hdb:=gY.d))) (ay (dj (PW.pt (uQ (jo (jU (c8 nR g5.g T.isinstance kM (ah (bI fh (pvl 10 fH) aF (fun _ _=>rfl)) (ah (vb (v:=.ty "tuple") gY.g T.tuple ie rfl (hn:=gY.n) (hd:=gY.d)) am)) (hn:=g5.n) (hdb:=g5.d)))) (yp (jo (jU (c8 (y7 rfl) zb.g T.all E7 (ah (pO rfl (vV (Nc:=["number"]) 1 (by decide +kernel) (by decide +kernel) rfl (by decide +kernel) rfl) (vH (bI fh (pvl 10 fH) aF (fun _ _=>rfl))) (fun _ _ _ _=>(bJ (i:=0) (show (["number"]:List Str).Nodup from by decide +kernel) rfl (Or.inl rfl))) (fun _ _ _ _=>oq) (fun _ _ _ _=>(aZ oh (hr.mono (by decide)) (by rfl) gf.m gf.F.kp gf.b .nil (cI hq) (ah (pv 0) am)))) am) (hn:=zb.n) (hdb:=zb.d))))))) (aM (bR uR)) b5) (aM (bR (vX (i9 (A9 hv) (pvl 10 fH) (fJ (ah qK (ah (pvl 11 vq) am))) (bK _)) (vX (i9 Fv (c8 (P3 rfl) zG.g T.min PQ (ah (pvl 11 vq) am) (hn:=zG.n) (hdb:=zG.d)) aF (bK _)) (yB (i9 (A9 hv) (pvl 8 gn) (gZ (ah (pvc 6 jh) (ah (pvc 7 lF) am))) (bK _))))))))) b5) (ay (dj (PW.pt (uQ (bW tV (bI fh (pvl 10 fH) aF (fun _ _=>rfl)) qK (bK _)) (yp (jo (jU (aZ pG (hr.mono (by decide)) qh.g gF.m gF.F.kp gF.b .nil (cI hq) (ah (bI fh (pvl 10 fH) aF (fun _ _=>rfl)) am) (hdb:=qh.d))))))) (aM (bR uR)) b5) (ay (dj (jo (jU (aZ vh (hr.mono (by decide)) uB.g mG.m mG.F.kp mG.b .nil (cI hq) (ah (aZ zj (hr.mono (by decide)) wI.g qf.m qf.F.kp qf.b .nil (cI hq) (ah (pvc 4 wy) (ah (pvc 6 jh) (ah (bI fh (pvl 10 fH) aF (fun _ _=>rfl)) am))) (hdb:=wI.d)) (ah (pvc 7 lF) am)) (hdb:=uB.d)))) (aM (bR uR)) b5) (ay (bp (i:=12) mi.nd rfl (Or.inl Du.l) (fK oZ fP.g T.list va (ah (bI fh (pvl 10 fH) aF (fun _ _=>rfl)) am) (hn:=fP.n) (hdb:=fP.d))) (ay (eK (pP PySem.F.plainAttrs_list PySem.F.slot_list_append PySem.F.type_list_append fX (bI fh (pvl 10 fH) aF (fun _ _=>rfl)) (ah (fJ (ah aF (ah aF (ah aF am)))) am))) (aM (bR (vX (i9 (A9 hv) (aZ mS (hr.mono (by decide)) pQ.g eG.m eG.F.kp eG.b .nil (cI hq) (ah (pvl 3 sv) (ah (bI b6 (pvl 8 gn) aF (fun _ _=>rfl)) (ah (bI b6 (pvl 8 gn) aF (fun _ _=>rfl)) am))) (hdb:=pQ.d)) (fJ (ah qK (ah (pvl 12 Du) am))) (bK _)) (yB (i9 (A9 hv) (pvl 8 gn) (gZ (ah (pvc 6 jh) (ah (pvc 7 lF) am))) (bK _))))))))))))))))))))))),?_⟩;rw [show L2.start ["script","many","roads","web","tolls","bound","laying","wish","handed","due","found","lacks","kept"] [V.ref a]=[some (V.ref a),none,none,none,none,none,none,none,none,none,none,none,none] from rfl];refine f8 fun N1 h1=>?_;walk_at "rd";refine ⟨a,ns,7,rfl,ha,by decide,by decide,fun t l m ps rs H1 nt nl s1 et el ro g=>?_⟩;have m1:=g.m1;have m24:=g.m24;refine ⟨t,rfl,_,SqT.of et,rfl,_,_,rfl,_,_,rfl,rfl,h1 _ _ (f8 fun N2 h2=>?_)⟩;walk_at "rd";refine ⟨_,.inl (SqL.of el),fun lc nlc=>?_⟩;have s2:=Same.new (.lst (ps.map V.ref)) nlc;refine Wl T (c:=true) (SqL.of ao) (RoadsAt.same s2 ro) g fun x tw H2 hx htw s3 W=>?_;have s23:=s2.trans s3;have s13:=s1.trans s23;refine h2 _ _ (f8 fun N3 h3=>?_);walk_at "rd";refine ⟨l,ps,m,rs,rfl,s23 _ _ el,RoadsAt.same s23 ro,g,fun d H3 nd s4 ta=>h3 _ _ (f8 fun N4 h4=>?_)⟩;have W3:=W.same s4;have s14:=s13.trans s4;walk_at "rd";refine ⟨a,ns,rfl,Same.seq s14 ha,fun b H4 b1 s5=>h4 _ _ (f8 fun N5 h5=>?_)⟩;have s15:=s14.trans s5;walk_at "rd";refine ⟨a,ns,m,b,rfl,Same.seq s15 ha,hn,m1,m24,b1,fun lx xs H5 nx s6 ex xl x0=>h5 _ _ (f8 fun N6 h6=>?_)⟩;have s16:=s15.trans s6;walk_at "rd";refine ⟨a,ns,m,b,rfl,Same.seq s16 ha,hn,m1,m24,b1,fun ly ys H6 ny s7 ey yl y0=>h6 _ _ (f8 fun N7 h7=>?_)⟩;have s17:=s16.trans s7;have ex6:=s7 _ _ ex;have nyx:ly≠lx:=fun z=>by rw [z,ex] at ny;cases ny
   have W5:=W3.same s5;have ta5:=ta.same s5;walk_at "rd";refine ⟨a,d,lx,ly,ns,m,rs,xs,ys,rfl,Same.seq s17 ha,ta5.same (s6.trans s7),g,ex6,xl,x0,ey,yl,fun zs H7 zl z0 oth hz=>h7 _ _ (f8 fun N8 h8=>?_)⟩;have t7:Same H4 H7:=fun q o e=>oth q o (fun z=>by rw [z,nx] at e;cases e) ((s6.trans s7) q o e);have W7:=W5.same t7;have ta7:=ta5.same t7;have hy7:=oth ly _ nyx ey;have fx:=Gr zl z0;have fy:=Gr yl y0;have s07:Same H H7:=s15.trans t7;clear t7 oth ex6 ta5 W5 s17 s16 s15 s14 s13 W3;walk_at "rd";refine ⟨_,.inl (SqL.of hz),fun lh nlh=>?_⟩;have s8:=Same.new (HO.lst (zs.map V.int)) nlh;have e8:upd H7 lh (HO.lst (zs.map V.int)) lh=some (.lst (zs.map V.int)):=ao;generalize upd H7 lh (HO.lst (zs.map V.int))=H8 at s8 e8 ⊢;refine ⟨_,.inl (SqL.of (s8 _ _ hy7)),fun lk nlk=>?_⟩;have u9:=Same.new (HO.lst (ys.map V.int)) nlk;have s9:=s8.trans u9;have e89:=u9 _ _ e8;have e9:upd H8 lk (HO.lst (ys.map V.int)) lk=some (.lst (ys.map V.int)):=ao;generalize upd H8 lk (HO.lst (ys.map V.int))=H9 at s9 e89 e9 ⊢;refine ⟨cu (by simp),fun lp nlp=>h8 _ _ (f8 fun N10 h10=>?_)⟩;have u10:=Same.new (HO.lst [V.ref lh,V.ref lk]) nlp;have s10:=s9.trans u10;have eh:=u10 _ _ e89;have ek:=u10 _ _ e9;have ep:upd H9 lp (HO.lst [V.ref lh,V.ref lk]) lp=some (.lst [V.ref lh,V.ref lk]):=ao;generalize upd H9 lp (HO.lst [V.ref lh,V.ref lk])=H10 at s10 eh ek ep ⊢;have W10:=W7.same s10;have ta10:=ta7.same s10;have hz10:=s10 _ _ hz;have hy10:=s10 _ _ hy7;have s010:=s07.trans s10;clear s8 u9 s9 u10 e8 e89 e9 W7 ta7 hz hy7 s07 s10 nlh nlk nlp;have exP:∀ r:Int,∃ pd:(Int->Int) × (Int->Nat),0<=r->r<m->Rooted m rs r pd.1 pd.2:=fun r=>by
     by_cases c:0<=r/\r<m
     . obtain ⟨par,dep,R⟩:=BQ g c.1 c.2;exact ⟨(par,dep),fun _ _=>R⟩
     . exact ⟨(fun x=>x,fun _=>0),fun z1 z2=>absurd ⟨z1,z2⟩ c⟩
   obtain ⟨PD,hPD⟩:∃ PD:Int->(Int->Int) × (Int->Nat),∀ r,0<=r->r<m->Rooted m rs r (PD r).1 (PD r).2:=⟨fun r=>Classical.choose (exP r),fun r=>Classical.choose_spec (exP r)⟩;have R0:=hPD 0 (bh _) (by omega);walk_at "rd";refine ⟨x,lx,ly,tw,m,ps,rs,zs,ys,rfl,W10,hz10,hy10,fx,fy,by omega,by omega,fun H11 s11=>⟨_,rfl,?_⟩⟩;rw [aa (by decide)];refine h10 _ _ (f8 fun N11 h11=>?_);have W11:=W10.same s11;have ta11:=ta10.same s11;have hz11:=s11 _ _ hz10;have hy11:=s11 _ _ hy10;have eh11:=s11 _ _ eh;have ek11:=s11 _ _ ek;have ep11:=s11 _ _ ep;clear W10 ta10 hz10 hy10 eh ek ep s010 s11 h10;walk_at "rd";refine ⟨by omega,by omega,fun pl npl=>?_⟩;refine sH (fun i zs' σ H'=>Same H11 H'/\H' pl=some (.lst zs')/\zs'=(rZ m rs (fun r=>(PD r).1) (fun r=>(PD r).2) zs ys i).map V.int/\∃ v,σ=[v,some (V.ref d),some (V.int m),some (V.ref lx),some (V.ref ly)]) ⟨Same.new _ npl,ao,rfl,_,rfl⟩ ?_ ?_
   . rintro i zs' σ H' M hM hi ⟨s',e',rfl,v,rfl⟩;rw [gD];have i0:(0:Int)<=(i:Int):=(by omega);have i1:(i:Int)<m:=(by omega);walk_at "rd";refine ⟨d,lx,ly,true,true,rs,zs,ys,m,(i:Int),rfl,ta11.same s',g,SqL.of (s' _ _ hz11),zl,SqL.of (s' _ _ hy11),yl,⟨i0,i1⟩,(PD i).1,(PD i).2,hPD i i0 i1,fun lg H'' ng s'' eg=>?_⟩;have gl:(oE m rs i (PD i).1 (PD i).2 (fun v=>(cx m zs ys).getD v.toNat 0) (hnd rs (PD i).1)).length=m.toNat:=(by unfold oE;rw [ai,dq]);refine ixL eg (atG i0 (by omega)) ⟨s'' _ _ e',eT (by rw [ai,En];omega),hM _ _ _ ⟨(s'.trans s'').put npl _,ao,?_,_,rfl⟩⟩;rw [z8 i0 i1,GI,aA]
     rfl
   . rintro zs' σ H12 ⟨s12,e12,rfl,v,rfl⟩;refine h11 _ _ (f8 fun N12 h12=>?_);have W12:=W11.same s12;have ta12:=ta11.same s12;have hz12:=s12 _ _ hz11;have hy12:=s12 _ _ hy11;have eh12:=s12 _ _ eh11;have ek12:=s12 _ _ ek11;have ep12:=s12 _ _ ep11;clear W11 ta11 hz11 hy11 eh11 ek11 ep11 s12 h11;have d0:(rZ m rs (fun r=>(PD r).1) (fun r=>(PD r).2) zs ys m.toNat).getD (0:Int).toNat 0=stg m rs 0 (PD 0).1 (PD 0).2 ys zs 0:=IR (by omega);have dl:(rZ m rs (fun r=>(PD r).1) (fun r=>(PD r).2) zs ys m.toNat).length=m.toNat:=En ..;walk_at "rd";refine ixL ep12 (v:=V.ref lh) rfl (ixL ep12 (v:=V.ref lk) rfl ?_);have s00:gat m rs 0 (PD 0).1 (PD 0).2 (fun v=>(cx m zs ys).getD v.toNat 0) (hnd rs (PD 0).1) 0=stg m rs 0 (PD 0).1 (PD 0).2 ys zs 0:=rfl;refine ⟨x,lh,lk,tw,true,true,m,ps,rs,zs,ys,rfl,W12,SqL.of eh12,by omega,SqL.of ek12,by omega,fun _ _=>⟨fun r=>(PD r).1,fun r=>(PD r).2,hPD,fun c lf lq qs tl H13 et O nq nf s13 ef eq st=>h12 _ _ (f8 fun N13 h13=>?_),fun c lf lt H13 nt nf s13 ef et=>h12 _ _ (f8 fun N13 h13=>?_)⟩,(fun z=>by rw [fx] at z;cases z),(fun _ z=>by rw [fy] at z;cases z)⟩
     . walk_at "rd";refine ⟨_,_,_,true,rfl,.tup ef,fun cv h=>by cases h;rfl,_,rfl,?_⟩;rw [aa (by decide)];refine ⟨_,.inr (SqT.of ef),?_⟩;rw [aa (fun z=>z rfl)];have ep13:=s13 _ _ ep12;refine ixL ep13 (v:=V.ref lh) rfl (ixL ep13 (v:=V.ref lk) rfl ?_);refine ⟨x,lh,lk,tw,true,true,m,ps,rs,zs,ys,rfl,W12.same s13,SqL.of (s13 _ _ eh12),by omega,SqL.of (s13 _ _ ek12),by omega,fun _ _=>⟨(PD 0).1,(PD 0).2,R0,fun H14 s14=>?_⟩,(fun z=>by rw [fx] at z;cases z),(fun _ z=>by rw [fy] at z;cases z)⟩;have s134:=s13.trans s14;refine ixL (s134 _ _ e12) (atG (by decide) (by omega)) ⟨_,rfl,rfl,?_⟩;rw [aa (fun z=>z (by rw [d0]))];refine h13 _ _ (f8 fun N14 h14=>?_);refine T2 fun NA NB kA kB=>?_;walk_at "rd";refine ixL (s134 _ _ e12) (atG (by decide) (by omega)) ⟨_,rfl,?_⟩;rw [aa (by rw [d0];exact Int.not_lt.mpr c)];refine kB _ _ ?_;walk_at "rd";refine h14 _ _ (f8 fun N15 h15=>?_);replace ef:=s14 _ _ ef;replace eq:=s14 _ _ eq;replace st:=st.same s14;have L:=UO g R0 zl y0 c;generalize hss:fU rs (PD 0).1 (stg m rs 0 (PD 0).1 (PD 0).2 ys zs) tl.reverse++iU (PD 0).1 (stg m rs 0 (PD 0).1 (PD 0).2 ys zs) tl=ss at st;have nd:(ss.map rdS).Nodup:=hss ▸ Sl R0 O _;have can:jW m rs zs ss:=hss ▸ L.all g R0 O;have cov:∀ v,0<=v->v<m->ys.getD v.toNat 0<=(ss.foldl (bU rs) zs).getD v.toNat 0:=fun v v0 v1=>hss ▸ L.meets g R0 O v0 v1;have sl:ss.length<=24:=by
         have tll:=O.perm_len (bh 0) (by omega);have h1:=Vm (rs:=rs) O (stg m rs 0 (PD 0).1 (PD 0).2 ys zs);rw [hss] at h1;omega
       walk_at "rd";refine ixT ef rfl ⟨rfl,?_⟩;rw [aa (fun z=>z rfl)];refine ixT ef rfl ⟨lq,qs,ss,rfl,eq,st,sl,nd,fun H15 s15=>⟨_,rfl,?_⟩⟩;rw [aa (by decide)];refine h15 _ _ (f8 fun N16 h16=>?_);have s125:=s134.trans s15;replace ef:=s15 _ _ ef;replace eq:=s15 _ _ eq;replace st:=st.same s15;walk_at "rd";refine ixT ef rfl ⟨d,lx,lq,true,m,rs,zs,qs,ss,rfl,ta12.same s125,g,s125 _ _ hz12,zl,eq,st,fun _ l3 H16 n16 s16 e16=>?_,fun nc=>absurd can nc⟩;have s126:=s125.trans s16;refine ⟨ly,ys,V.ref l3,rfl,s126 _ _ hy12,by omega,.inr ⟨l3,_,rfl,e16,by rw [Ei];omega,fun H17 s17=>⟨_,rfl,?_⟩⟩⟩;have cvt:cvL (gq rs zs ss ss.length) ys=true:=by
         rw [Pl (by rw [Ei];omega)];refine dz.mpr fun b hb=>?_;obtain ⟨i,hi,rfl⟩:=aY.mp hb;have il:=bD.mp hi;have:=cov (i:Int) (by omega) (by omega);rw [dR] at this;unfold gq;rw [bx];exact aW this
       rw [aa (by rw [cvt];decide)];refine h16 _ _ (f8 fun N17 h17=>?_);have u7:=s16.trans s17;have s127:=s126.trans s17;replace ef:=u7 _ _ ef;replace eq:=u7 _ _ eq;replace st:=st.same u7;walk_at "rd";refine ixT ef rfl ⟨lq,rfl,_,.inl (SqL.of eq),fun lk' nk=>h17 _ _ (f8 fun N18 h18=>?_)⟩;have u8:=Same.new (HO.lst (qs.map V.ref)) nk;have ek':upd H17 lk' (HO.lst (qs.map V.ref)) lk'=some (.lst (qs.map V.ref)):=ao;generalize upd H17 lk' (HO.lst (qs.map V.ref))=H18 at u8 ek' ⊢;have nkq:lk'≠lq:=fun z=>by rw [z,eq] at nk;cases nk
       have s128:=s127.trans u8;replace ef:=u8 _ _ ef;replace eq:=u8 _ _ eq;replace st:=st.same u8;walk_at "rd";refine ixT ef rfl ⟨tyL eq,cu (by simp),fun p9 n9=>?_⟩;have u9:=Same.new (HO.tup [V.int 0,V.int 0,V.int 0]) n9;have qsl:qs.length=ss.length:=Paired.length st;refine tD (u9 _ _ eq) (eT (by rw [ai];omega)) (h18 _ _ ?_);have s129:=(s128.trans u9).put nq (HO.lst (qs.map V.ref++[V.ref p9]));have ek9:upd (upd H18 p9 (HO.tup [V.int 0,V.int 0,V.int 0])) lq (HO.lst (qs.map V.ref++[V.ref p9])) lk'=some (.lst (qs.map V.ref)):=(by rw [aX nkq];exact u9 _ _ ek');have st9:StepsAt (upd (upd H18 p9 (HO.tup [V.int 0,V.int 0,V.int 0])) lq (HO.lst (qs.map V.ref++[V.ref p9]))) qs ss:=Paired.imp' (fun b x e=>by rw [aX (oW (u9 _ _ e) (u9 _ _ eq) (by intro z;cases z))];exact u9 _ _ e) st;generalize upd (upd H18 p9 (HO.tup [V.int 0,V.int 0,V.int 0])) lq (HO.lst (qs.map V.ref++[V.ref p9]))=H19 at s129 ek9 st9 ⊢;walk_at "rd";have ep19:=s129 _ _ ep12;refine ixL ep19 (v:=V.ref lh) rfl (ixL ep19 (v:=V.ref lk) rfl ?_);refine ⟨x,lh,lk,tw,true,true,m,ps,rs,zs,ys,rfl,W12.same s129,SqL.of (s129 _ _ eh12),by omega,SqL.of (s129 _ _ ek12),by omega,fun _ _=>⟨fun r=>(PD r).1,fun r=>(PD r).2,hPD,fun _ lf' lq' qs' tl' H20 et' _ _ _ s20 ef' eq' st'=>?_,fun c'=>absurd c c'⟩,(fun z=>by rw [fx] at z;cases z),(fun _ z=>by rw [fy] at z;cases z)⟩;have etl:tl'=tl:=(by rw [et] at et';cases et';rfl);subst etl;rw [hss] at st';refine ⟨cu (by simp),fun pt npt=>?_⟩;have u21:=Same.new (HO.tup [V.str (Str.ofString "steps"),V.ref lk']) npt;have e21:upd H20 pt (HO.tup [V.str (Str.ofString "steps"),V.ref lk']) pt=some (.tup [.str "steps",.ref lk']):=ao;generalize upd H20 pt (HO.tup [V.str (Str.ofString "steps"),V.ref lk'])=H21 at u21 e21 ⊢;have v21:=s20.trans u21;have w21:=s129.trans v21;refine Jn (u21 _ _ ef') (u21 _ _ eq') (st'.same u21) e21 (v21 _ _ ek9) (st9.same v21) ⟨_,rfl,?_⟩
       . rw [ag rfl];refine ⟨cu (by simp),fun pe ne=>?_⟩;have se:=Same.new (HO.lst [V.ref lx,V.ref ly]) ne;have t13:=w21.trans se;refine ⟨_,_,.lst (SqL.of (t13 _ _ ep12)) (.cons (mR (t13 _ _ eh12)) (.cons (mR (t13 _ _ ek12)) .nil)),.lst (SqL.of ao) (.cons (mR (t13 _ _ hz12)) (.cons (mR (t13 _ _ hy12)) .nil)),?_,?_⟩
         . have d1:=kO zs;have d2:=kO ys;simp only [PyData.depth,PyData.depthAll];omega
         . have ee:PyData.eqv (.list [.list (zs.map PyData.int),.list (ys.map PyData.int)]) (.list [.list (zs.map PyData.int),.list (ys.map PyData.int)])=true:=by
             simp [PyData.eqv,PyData.eqvAll,tW]
           rw [ee];exact k _
     . walk_at "rd";refine ⟨_,_,_,true,rfl,.tup ef,fun cv h=>by cases h;rfl,_,rfl,?_⟩;rw [aa (by decide)];refine ⟨_,.inr (SqT.of ef),?_⟩;rw [aa (fun z=>z rfl)];have ep13:=s13 _ _ ep12;refine ixL ep13 (v:=V.ref lh) rfl (ixL ep13 (v:=V.ref lk) rfl ?_);refine ⟨x,lh,lk,tw,true,true,m,ps,rs,zs,ys,rfl,W12.same s13,SqL.of (s13 _ _ eh12),by omega,SqL.of (s13 _ _ ek12),by omega,fun _ _=>⟨(PD 0).1,(PD 0).2,R0,fun H14 s14=>?_⟩,(fun z=>by rw [fx] at z;cases z),(fun _ z=>by rw [fy] at z;cases z)⟩;have s134:=s13.trans s14;refine ixL (s134 _ _ e12) (atG (by decide) (by omega)) ⟨_,rfl,rfl,?_⟩;rw [aa (fun z=>z (by rw [d0]))];refine h13 _ _ (f8 fun N14 h14=>?_);refine T2 fun NA NB kA kB=>?_;walk_at "rd";refine ixL (s134 _ _ e12) (atG (by decide) (by omega)) ⟨_,rfl,?_⟩;rw [ag (by rw [d0];exact Int.not_le.mp c)];refine kA _ _ (f8 fun N15 h15=>?_);replace ef:=s14 _ _ ef;replace et:=s14 _ _ et;walk_at "rd";have e14:=s134 _ _ e12;generalize hD:rZ m rs (fun r=>(PD r).1) (fun r=>(PD r).2) zs ys m.toNat=DD at e14 et d0 dl;refine ⟨⟨_,SqL.of e14⟩,fun pc npc=>?_⟩;refine tR (K:=K) (c:=true) (a:=pl) (xs:=DD.map V.int) (fun i bs σ H15=>Same H14 H15/\H15 pc=some (.lst bs)/\bs=((DD.take i).map fun x=>-x).map V.int/\∃ v,σ=[v]) ⟨Same.new _ npc,ao,rfl,_,rfl⟩ (fun i bs σ H15 _ z=>SqL.of (z.1 _ _ e14)) ?_ ?_
       . rintro j y bs σ H15 M hM hj ⟨s15,e15,rfl,v',rfl⟩;obtain ⟨w,hw,rfl⟩:=List.getElem?_map_some hj;have jl:j<DD.length:=(aq.mp hw).1;walk_at "rd";refine ⟨e15,eT (by rw [ai,ai,bu];omega),hM _ _ _ ⟨s15.put npc _,ao,?_,_,rfl⟩⟩;rw [List.take_add_one,hw,aA,aA,Int.zero_sub]
         rfl
       . rintro bs σ H15 ⟨s15,e15,rfl,v',rfl⟩;rw [ai,bx] at e15;refine ⟨pc,rfl,_,.inl ⟨SqL.of e15,fun pL nL=>h15 _ _ (f8 fun N16 h16=>?_)⟩⟩;have u6:=Same.new (HO.tup ((DD.map fun x=>-x).map V.int)) nL;have eL:upd H15 pL (HO.tup ((DD.map fun x=>-x).map V.int)) pL=some (.tup ((DD.map fun x=>-x).map V.int)):=ao;generalize upd H15 pL (HO.tup ((DD.map fun x=>-x).map V.int))=H16 at u6 eL ⊢;have s16:=s15.trans u6;have s126:=s134.trans s16;replace ef:=s16 _ _ ef;replace et:=s16 _ _ et;generalize hW:(DD.map fun x=>-x)=WW at et eL;have wl:WW.length=m.toNat:=(by rw [<- hW,ai];exact dl);have wp:∀ w∈WW,0<w:=fun w hw=>by
           rw [<- hW] at hw;obtain ⟨y,hy,rfl⟩:=aY.mp hw;obtain ⟨i,hi,rfl⟩:=gL hy;have gi:DD.getD i 0=stg m rs (i:Int) (PD i).1 (PD i).2 ys zs (i:Int):=(by rw [<- hD];exact IR (by omega));rw [List.getD_eq_getElem?_getD,ax hi] at gi;have gi':DD[i]=stg m rs (i:Int) (PD i).1 (PD i).2 ys zs (i:Int):=gi;rw [gi'];have:¬ 0<=stg m rs (i:Int) (PD i).1 (PD i).2 ys zs (i:Int):=fun z=>c (UL g (hPD i (by omega) (by omega)) (by omega) (by omega) R0 (bh _) (by omega) zl z0 y0 z);omega
         walk_at "rd";refine ixT ef rfl ⟨_,_,_,true,rfl,.tup et,fun cv h=>by cases h;rfl,_,rfl,?_⟩;rw [aa (by decide)];refine ixT ef rfl ⟨_,rfl,⟨_,SqT.of et⟩,fun pb npb=>?_⟩;refine tR (K:=K) (c:=false) (a:=lt) (xs:=WW.map V.int) (fun i bs σ H17=>Same H16 H17/\H17 pb=some (.lst bs)/\bs=(List.replicate i true).map V.bl/\∃ v,σ=[v]) ⟨Same.new _ npb,ao,rfl,_,rfl⟩ (fun i bs σ H17 _ z=>SqT.of (z.1 _ _ et)) ?_ ?_
         . rintro j y bs σ H17 M hM hj ⟨s17,e17,rfl,v',rfl⟩;obtain ⟨w,hw,rfl⟩:=List.getElem?_map_some hj;have jl:j<WW.length:=(aq.mp hw).1;walk_at "rd";refine ⟨w,rfl,e17,eT (by rw [ai,c7];omega),hM _ _ _ ⟨s17.put npb _,ao,?_,_,rfl⟩⟩;rw [mN,aA]
           rfl
         . rintro bs σ H17 ⟨s17,e17,rfl,v',rfl⟩;refine ⟨pb,rfl,_,SqL.of e17,?_⟩;rw [aa (by simp)];refine h16 _ _ ?_;have s127:=s126.trans s17;walk_at "rd";refine ⟨cu (by simp),fun pt npt=>?_⟩;have u8:=Same.new (HO.tup [V.str (Str.ofString "lack"),V.ref pL]) npt;have e8:upd H17 pt (HO.tup [V.str (Str.ofString "lack"),V.ref pL]) pt=some (.tup [.str "lack",.ref pL]):=ao;generalize upd H17 pt (HO.tup [V.str (Str.ofString "lack"),V.ref pL])=H18 at u8 e8 ⊢;have v8:=s17.trans u8;refine MI (v8 _ _ ef) (v8 _ _ et) e8 (v8 _ _ eL) ⟨_,rfl,?_⟩;rw [ag rfl];refine ⟨_,SqT.of (v8 _ _ eL),fun z=>by rw [z] at wl;simp at wl;omega,fun y hy _=>?_⟩;rw [ag (wp y hy)];refine ⟨cu (by simp),fun pe ne=>?_⟩;have se:=Same.new (HO.lst [V.ref lx,V.ref ly]) ne;have t13:=(s127.trans u8).trans se;refine ⟨_,_,.lst (SqL.of (t13 _ _ ep12)) (.cons (mR (t13 _ _ eh12)) (.cons (mR (t13 _ _ ek12)) .nil)),.lst (SqL.of ao) (.cons (mR (t13 _ _ hz12)) (.cons (mR (t13 _ _ hy12)) .nil)),?_,?_⟩
           . have d1:=kO zs;have d2:=kO ys;simp only [PyData.depth,PyData.depthAll];omega
           . have ee:PyData.eqv (.list [.list (zs.map PyData.int),.list (ys.map PyData.int)]) (.list [.list (zs.map PyData.int),.list (ys.map PyData.int)])=true:=by
               simp [PyData.eqv,PyData.eqvAll,tW]
             rw [ee];exact k _
end
theorem WT:cR CX0:=fun _ _ _ _ _ h=>h
theorem all_mk {l:PySem.W.OpenLaw} {w:World} {K:PySem.W.Frag} {h:Heap} {mg:Str->Option Value} {fa:Addr} {IC:Addr} {wD:Addr} {zI:Addr} {tY:Addr} {wR:Addr} {rV:Addr} {xc_NoPlace:Value} {xd_NoPlace:Option Addr} {xk_NoPlace:ClassData} {xs_NoPlace:Array (Option Value)} {qn_NoPlace qq_NoPlace:Str} {qN_NoPlace:Addr} {qb_NoPlace qm_NoPlace:List Value} {qh_NoPlace:Bool} {qs_NoPlace:List Str} {qu_NoPlace:List Value} {qa_NoPlace:Bool} {qc_NoPlace:Option Bool} {qd_NoPlace:Option Addr} {q0_NoPlace q1_NoPlace q2_NoPlace q3_NoPlace q5_NoPlace:Option Value} {xc_NoRoad:Value} {xd_NoRoad:Option Addr} {xk_NoRoad:ClassData} {xs_NoRoad:Array (Option Value)} {qn_NoRoad qq_NoRoad:Str} {qN_NoRoad:Addr} {qb_NoRoad qm_NoRoad:List Value} {qh_NoRoad:Bool} {qs_NoRoad:List Str} {qu_NoRoad:List Value} {qa_NoRoad:Bool} {qc_NoRoad:Option Bool} {qd_NoRoad:Option Addr} {q0_NoRoad q1_NoRoad q2_NoRoad q3_NoRoad q5_NoRoad:Option Value} {xc_BadLaying:Value} {xd_BadLaying:Option Addr} {xk_BadLaying:ClassData} {xs_BadLaying:Array (Option Value)} {qn_BadLaying qq_BadLaying:Str} {qN_BadLaying:Addr} {qb_BadLaying qm_BadLaying:List Value} {qh_BadLaying:Bool} {qs_BadLaying:List Str} {qu_BadLaying:List Value} {qa_BadLaying:Bool} {qc_BadLaying:Option Bool} {qd_BadLaying:Option Addr} {q0_BadLaying q1_BadLaying q2_BadLaying q3_BadLaying q5_BadLaying:Option Value} {xc_BadWish:Value} {xd_BadWish:Option Addr} {xk_BadWish:ClassData} {xs_BadWish:Array (Option Value)} {qn_BadWish qq_BadWish:Str} {qN_BadWish:Addr} {qb_BadWish qm_BadWish:List Value} {qh_BadWish:Bool} {qs_BadWish:List Str} {qu_BadWish:List Value} {qa_BadWish:Bool} {qc_BadWish:Option Bool} {qd_BadWish:Option Addr} {q0_BadWish q1_BadWish q2_BadWish q3_BadWish q5_BadWish:Option Value} {ia:Addr} {od_check_counts EM:Option Addr} {EA:Array (Option Value)} {oc_check_counts EO Fz E6 w6 FH:Value} {ir:Addr} {od_is_place MC:Option Addr} {Lo:Array (Option Value)} {oc_is_place L5 Me LY C5 LZ:Value} {j6:Addr} {od_check_ends Hk:Option Addr} {HE:Array (Option Value)} {oc_check_ends HG HA HD AO HM:Value} {f7:Addr} {od_other_ends Hx:Option Addr} {Hn:Array (Option Value)} {oc_other_ends He Ho HI AB HR:Value} {im:Addr} {od_check_joined ED:Option Addr} {Fm:Array (Option Value)} {oc_check_joined Fc EK FA wN E2:Value} {jc:Addr} {od_check_tolls F4:Option Addr} {F1:Array (Option Value)} {oc_check_tolls FY Gd F3 yT FP:Value} {f_Web___init__:Addr} {od_Web___init__ Fb:Option Addr} {Fr:Array (Option Value)} {oc_Web___init__ Fd Fo Fl wJ Fj:Value} {lB:Addr} {od_law_tolls KH:Option Addr} {JZ:Array (Option Value)} {oc_law_tolls Jq K5 JL BD Kf:Value} {cC:Addr} {od_law_drawn Kt:Option Addr} {IT:Array (Option Value)} {oc_law_drawn Kc Jk Jc Bu JA:Value} {lK:Addr} {od_law_bound Kx:Option Addr} {Iy:Array (Option Value)} {oc_law_bound Kb JU J6 Bz Ir:Value} {jM:Addr} {od_law_covers Hz:Option Addr} {Hg:Array (Option Value)} {oc_law_covers Hf HF HB AF Hm:Value} {nG:Addr} {od_law_done Ma:Option Addr} {LV:Array (Option Value)} {oc_law_done Ln LQ Ll C8 Mx:Value} {nj:Addr} {od_law_down Mp:Option Addr} {LF:Array (Option Value)} {oc_law_down Mq L7 LH Dh Lm:Value} {eE:Addr} {od_law_standings Ef:Option Addr} {DV:Array (Option Value)} {oc_law_standings Ey D9 D3 wB Er:Value} {mX:Addr} {od_law_edge LR:Option Addr} {My:Array (Option Value)} {oc_law_edge LU Mg MD Dy Mn:Value} {j7:Addr} {od_law_laying HK:Option Addr} {Hu:Array (Option Value)} {oc_law_laying HJ Hr HL Ax HQ:Value} {gQ:Addr} {od_law_whole Ky:Option Addr} {Kz:Array (Option Value)} {oc_law_whole J0 IM JJ B6 KB:Value} {fD:Addr} {od_law_steps_formed AV:Option Addr} {AY:Array (Option Value)} {oc_law_steps_formed A7 AU A3 sT A4:Value} {dW:Addr} {od_check_place FT:Option Addr} {FQ:Array (Option Value)} {oc_check_place F5 Gf F8 yI Gb:Value} {wz:Addr} {od_toll U3:Option Addr} {U8:Array (Option Value)} {oc_toll Ua UG UD Na UZ:Value} {gP:Addr} {od_handed_on Ie:Option Addr} {JX:Array (Option Value)} {oc_handed_on Ko Ji Jl Bi JT:Value} {ka:Addr} {od_neighbours Hs:Option Addr} {HS:Array (Option Value)} {oc_neighbours Hi Hb HN AQ HC:Value} {qG:Addr} {od_kids Uh:Option Addr} {UU:Array (Option Value)} {oc_kids T7 Ut UA MG Us:Value} {nW:Addr} {od_ahead So:Option Addr} {SM:Array (Option Value)} {oc_ahead ST SG Td Kr Sf:Value} {wk:Addr} {od_down U4:Option Addr} {Uu:Array (Option Value)} {oc_down UM Uw UC MU UQ:Value} {ik:Addr} {od_inward Qq:Option Addr} {Qn:Array (Option Value)} {oc_inward PM QC Pt Gv PH:Value} {gO:Addr} {od_is_filled Kk:Option Addr} {KZ:Array (Option Value)} {oc_is_filled KO JI JF Ca Kj:Value} {lJ:Addr} {od_laying_of K2:Option Addr} {KW:Array (Option Value)} {oc_laying_of IA Jg Jy Ck Iv:Value} {o6:Addr} {od_wish_of NX:Option Addr} {OH:Array (Option Value)} {oc_wish_of NF Nm No Fi Ow:Value} {eW:Addr} {od_standings I0:Option Addr} {IV:Array (Option Value)} {oc_standings Jb Je Iz Bk IL:Value} {iA:Addr} {od_standing Ml:Option Addr} {Lv:Array (Option Value)} {oc_standing LA Lx L9 Dg Mo:Value} {ic:Addr} {od_is_met Ph:Option Addr} {QM:Array (Option Value)} {oc_is_met QU Ql PU GR Qz:Value} {mZ:Addr} {od_lacks_of Lq:Option Addr} {L8:Array (Option Value)} {oc_lacks_of Ly LK Mf Di Mu:Value} {nB:Addr} {od_steps_in LP:Option Addr} {Mt:Array (Option Value)} {oc_steps_in LJ Lz Lj DC LN:Value} {lL:Addr} {od_steps_out Kq:Option Addr} {Iw:Array (Option Value)} {oc_steps_out KL Kg IQ Cp Ka:Value} {jI:Addr} {od_meeting O1:Option Addr} {Oe:Array (Option Value)} {oc_meeting Oh OG Ot EJ Nt:Value} {gs:Addr} {od_law_tuples_too CS:Option Addr} {CM:Array (Option Value)} {oc_law_tuples_too CN CU C2 uH C0:Value} {nA:Addr} {od_law_toll La:Option Addr} {Mh:Array (Option Value)} {oc_law_toll Lc Mi K9 DJ LD:Value} {lO:Addr} {od_law_roads Kp:Option Addr} {JN:Array (Option Value)} {oc_law_roads IJ JD Ia B7 Ih:Value} {pi:Addr} {od_law_web Nw:Option Addr} {Of:Array (Option Value)} {oc_law_web NJ Oa NN E9 OA:Value} {nF:Addr} {od_law_wish L6:Option Addr} {Mc:Array (Option Value)} {oc_law_wish L0 L3 Mm Dz LC:Value} {NY:Addr} {od_law QV:Option Addr} {Wm:Array (Option Value)} {oc_law QD QB QK Jo Qe:Value} {t_MOST_PLACES:Tok} {t_LEAST_TOLL:Tok} {t_MOST_TOLL:Tok} (X:K.In h) (G:h.Ns mainGlobals mg) (hfa:mg "law"=some (.ref fa))
   (Bp:PySem.W.nsIn K mainGlobals "BadWeb"=some (some (.ref IC)))
   (z7:PySem.W.nsIn K mainGlobals "NoPlace"=some (some (.ref wD)))
   (Bt:PySem.W.nsIn K mainGlobals "NoRoad"=some (some (.ref zI)))
   (wb:PySem.W.nsIn K mainGlobals "BadLaying"=some (some (.ref tY)))
   (Ai:PySem.W.nsIn K mainGlobals "BadWish"=some (some (.ref wR)))
   (KS:PySem.W.nsIn K mainGlobals "Web"=some (some (.ref rV)))
   (zA:K.lookup wD=some ⟨xc_NoPlace,xd_NoPlace,.cls xk_NoPlace,xs_NoPlace⟩)
   (zf:(⟨xc_NoPlace,xd_NoPlace,.cls xk_NoPlace,xs_NoPlace⟩:Obj)=excClassObj qn_NoPlace qq_NoPlace wD qN_NoPlace qb_NoPlace qm_NoPlace qh_NoPlace qs_NoPlace qu_NoPlace qa_NoPlace qc_NoPlace qd_NoPlace q0_NoPlace q1_NoPlace q2_NoPlace q3_NoPlace q5_NoPlace "ValueError.__new__")
   (y3:PySem.W.nsOkIn K qN_NoPlace=true)
   (zQ:PySem.W.nsIn K qN_NoPlace "__init__"=some none)
   (zH:PySem.W.tailIn K bmV qm_NoPlace=true)
   (Bd:K.lookup zI=some ⟨xc_NoRoad,xd_NoRoad,.cls xk_NoRoad,xs_NoRoad⟩)
   (Bj:(⟨xc_NoRoad,xd_NoRoad,.cls xk_NoRoad,xs_NoRoad⟩:Obj)=excClassObj qn_NoRoad qq_NoRoad zI qN_NoRoad qb_NoRoad qm_NoRoad qh_NoRoad qs_NoRoad qu_NoRoad qa_NoRoad qc_NoRoad qd_NoRoad q0_NoRoad q1_NoRoad q2_NoRoad q3_NoRoad q5_NoRoad "ValueError.__new__")
   (B5:PySem.W.nsOkIn K qN_NoRoad=true)
   (Bw:PySem.W.nsIn K qN_NoRoad "__init__"=some none)
   (Bc:PySem.W.tailIn K bmV qm_NoRoad=true)
   (ww:K.lookup tY=some ⟨xc_BadLaying,xd_BadLaying,.cls xk_BadLaying,xs_BadLaying⟩)
   (wu:(⟨xc_BadLaying,xd_BadLaying,.cls xk_BadLaying,xs_BadLaying⟩:Obj)=excClassObj qn_BadLaying qq_BadLaying tY qN_BadLaying qb_BadLaying qm_BadLaying qh_BadLaying qs_BadLaying qu_BadLaying qa_BadLaying qc_BadLaying qd_BadLaying q0_BadLaying q1_BadLaying q2_BadLaying q3_BadLaying q5_BadLaying "ValueError.__new__")
   (vc:PySem.W.nsOkIn K qN_BadLaying=true)
   (vv:PySem.W.nsIn K qN_BadLaying "__init__"=some none)
   (vf:PySem.W.tailIn K bmV qm_BadLaying=true)
   (zV:K.lookup wR=some ⟨xc_BadWish,xd_BadWish,.cls xk_BadWish,xs_BadWish⟩)
   (Ad:(⟨xc_BadWish,xd_BadWish,.cls xk_BadWish,xs_BadWish⟩:Obj)=excClassObj qn_BadWish qq_BadWish wR qN_BadWish qb_BadWish qm_BadWish qh_BadWish qs_BadWish qu_BadWish qa_BadWish qc_BadWish qd_BadWish q0_BadWish q1_BadWish q2_BadWish q3_BadWish q5_BadWish "ValueError.__new__")
   (ze:PySem.W.nsOkIn K qN_BadWish=true)
   (zq:PySem.W.nsIn K qN_BadWish "__init__"=some none)
   (Ao:PySem.W.tailIn K bmV qm_BadWish=true)
   (tE:PySem.W.nsIn K mainGlobals "check_counts"=some (some (.ref ia)))
   (sX:K.lookup ia=some ⟨oc_check_counts,od_check_counts,.func (PySem.W.fnOf "check_counts" "check_counts" (bB dA) (bw dA) (ae dA) .none EO Fz E6 EM w6 FH),EA⟩)
   (tF:PySem.W.codeIn K w6 "check_counts"=true)
   (tL:PySem.W.keepIn K (.ref ia)=true)
   (zy:PySem.W.nsIn K mainGlobals "is_place"=some (some (.ref ir)))
   (zu:K.lookup ir=some ⟨oc_is_place,od_is_place,.func (PySem.W.fnOf "is_place" "is_place" (bB g2) (bw g2) (ae g2) .none L5 Me LY MC C5 LZ),Lo⟩)
   (zm:PySem.W.codeIn K C5 "is_place"=true)
   (zZ:PySem.W.keepIn K (.ref ir)=true)
   (vY:PySem.W.nsIn K mainGlobals "check_ends"=some (some (.ref j6)))
   (vC:K.lookup j6=some ⟨oc_check_ends,od_check_ends,.func (PySem.W.fnOf "check_ends" "check_ends" (bB eS) (bw eS) (ae eS) .none HG HA HD Hk AO HM),HE⟩)
   (wq:PySem.W.codeIn K AO "check_ends"=true)
   (vG:PySem.W.keepIn K (.ref j6)=true)
   (vM:PySem.W.nsIn K mainGlobals "other_ends"=some (some (.ref f7)))
   (vT:K.lookup f7=some ⟨oc_other_ends,od_other_ends,.func (PySem.W.fnOf "other_ends" "other_ends" (bB eC) (bw eC) (ae eC) .none He Ho HI Hx AB HR),Hn⟩)
   (vx:PySem.W.codeIn K AB "other_ends"=true)
   (we:PySem.W.keepIn K (.ref f7)=true)
   (tT:PySem.W.nsIn K mainGlobals "check_joined"=some (some (.ref im)))
   (tN:K.lookup im=some ⟨oc_check_joined,od_check_joined,.func (PySem.W.fnOf "check_joined" "check_joined" (bB cD) (bw cD) (ae cD) .none Fc EK FA ED wN E2),Fm⟩)
   (sV:PySem.W.codeIn K wN "check_joined"=true)
   (sU:PySem.W.keepIn K (.ref im)=true)
   (ut:PySem.W.nsIn K mainGlobals "check_tolls"=some (some (.ref jc)))
   (uq:K.lookup jc=some ⟨oc_check_tolls,od_check_tolls,.func (PySem.W.fnOf "check_tolls" "check_tolls" (bB dX) (bw dX) (ae dX) .none FY Gd F3 F4 yT FP),F1⟩)
   (uj:PySem.W.codeIn K yT "check_tolls"=true)
   (uk:PySem.W.keepIn K (.ref jc)=true)
   (tI:PySem.W.findIn K (.ref rV) "__init__"=some (some (.ref f_Web___init__)))
   (tj:PySem.W.isFn K (.ref f_Web___init__)=true)
   (tP:K.lookup f_Web___init__=some ⟨oc_Web___init__,od_Web___init__,.func (PySem.W.fnOf "__init__" "Web.__init__" (bB cF) (bw cF) (ae cF) .none Fd Fo Fl Fb wJ Fj),Fr⟩)
   (tm:PySem.W.codeIn K wJ "Web.__init__"=true)
   (tS:PySem.W.keepIn K (.ref f_Web___init__)=true)
   (xL:PySem.W.nsIn K mainGlobals "_law_tolls"=some (some (.ref lB)))
   (xX:K.lookup lB=some ⟨oc_law_tolls,od_law_tolls,.func (PySem.W.fnOf "_law_tolls" "_law_tolls" (bB eF) (bw eF) (ae eF) .none Jq K5 JL KH BD Kf),JZ⟩)
   (xI:PySem.W.codeIn K BD "_law_tolls"=true)
   (yf:PySem.W.keepIn K (.ref lB)=true)
   (yh:PySem.W.nsIn K mainGlobals "_law_drawn"=some (some (.ref cC)))
   (xP:K.lookup cC=some ⟨oc_law_drawn,od_law_drawn,.func (PySem.W.fnOf "_law_drawn" "_law_drawn" (bB cU) (bw cU) (ae cU) .none Kc Jk Jc Kt Bu JA),IT⟩)
   (xc:PySem.W.codeIn K Bu "_law_drawn"=true)
   (xi:PySem.W.keepIn K (.ref cC)=true)
   (xD:PySem.W.nsIn K mainGlobals "_law_bound"=some (some (.ref lK)))
   (xO:K.lookup lK=some ⟨oc_law_bound,od_law_bound,.func (PySem.W.fnOf "_law_bound" "_law_bound" (bB gd) (bw gd) (ae gd) .none Kb JU J6 Kx Bz Ir),Iy⟩)
   (xT:PySem.W.codeIn K Bz "_law_bound"=true)
   (xa:PySem.W.keepIn K (.ref lK)=true)
   (vw:PySem.W.nsIn K mainGlobals "_law_covers"=some (some (.ref jM)))
   (wd:K.lookup jM=some ⟨oc_law_covers,od_law_covers,.func (PySem.W.fnOf "_law_covers" "_law_covers" (bB dZ) (bw dZ) (ae dZ) .none Hf HF HB Hz AF Hm),Hg⟩)
   (wo:PySem.W.codeIn K AF "_law_covers"=true)
   (vL:PySem.W.keepIn K (.ref jM)=true)
   (zP:PySem.W.nsIn K mainGlobals "_law_done"=some (some (.ref nG)))
   (zU:K.lookup nG=some ⟨oc_law_done,od_law_done,.func (PySem.W.fnOf "_law_done" "_law_done" (bB eA) (bw eA) (ae eA) .none Ln LQ Ll Ma C8 Mx),LV⟩)
   (zt:PySem.W.codeIn K C8 "_law_done"=true)
   (zd:PySem.W.keepIn K (.ref nG)=true)
   (zr:PySem.W.nsIn K mainGlobals "_law_down"=some (some (.ref nj)))
   (Ah:K.lookup nj=some ⟨oc_law_down,od_law_down,.func (PySem.W.fnOf "_law_down" "_law_down" (bB dH) (bw dH) (ae dH) .none Mq L7 LH Mp Dh Lm),LF⟩)
   (y4:PySem.W.codeIn K Dh "_law_down"=true)
   (zF:PySem.W.keepIn K (.ref nj)=true)
   (sA:PySem.W.nsIn K mainGlobals "_law_standings"=some (some (.ref eE)))
   (rL:K.lookup eE=some ⟨oc_law_standings,od_law_standings,.func (PySem.W.fnOf "_law_standings" "_law_standings" (bB bF) (bw bF) (ae bF) .none Ey D9 D3 Ef wB Er),DV⟩)
   (rT:PySem.W.codeIn K wB "_law_standings"=true)
   (sC:PySem.W.keepIn K (.ref eE)=true)
   (An:PySem.W.nsIn K mainGlobals "_law_edge"=some (some (.ref mX)))
   (z9:K.lookup mX=some ⟨oc_law_edge,od_law_edge,.func (PySem.W.fnOf "_law_edge" "_law_edge" (bB dI) (bw dI) (ae dI) .none LU Mg MD LR Dy Mn),My⟩)
   (zw:PySem.W.codeIn K Dy "_law_edge"=true)
   (zO:PySem.W.keepIn K (.ref mX)=true)
   (wv:PySem.W.nsIn K mainGlobals "_law_laying"=some (some (.ref j7)))
   (vP:K.lookup j7=some ⟨oc_law_laying,od_law_laying,.func (PySem.W.fnOf "_law_laying" "_law_laying" (bB c9) (bw c9) (ae c9) .none HJ Hr HL HK Ax HQ),Hu⟩)
   (vU:PySem.W.codeIn K Ax "_law_laying"=true)
   (vg:PySem.W.keepIn K (.ref j7)=true)
   (xQ:PySem.W.nsIn K mainGlobals "_law_whole"=some (some (.ref gQ)))
   (xm:K.lookup gQ=some ⟨oc_law_whole,od_law_whole,.func (PySem.W.fnOf "_law_whole" "_law_whole" (bB eV) (bw eV) (ae eV) .none J0 IM JJ Ky B6 KB),Kz⟩)
   (xx:PySem.W.codeIn K B6 "_law_whole"=true)
   (xt:PySem.W.keepIn K (.ref gQ)=true)
   (pF:PySem.W.nsIn K mainGlobals "_law_steps_formed"=some (some (.ref fD)))
   (pj:K.lookup fD=some ⟨oc_law_steps_formed,od_law_steps_formed,.func (PySem.W.fnOf "_law_steps_formed" "_law_steps_formed" (bB bt) (bw bt) (ae bt) .none A7 AU A3 AV sT A4),AY⟩)
   (o3:PySem.W.codeIn K sT "_law_steps_formed"=true)
   (o5:PySem.W.keepIn K (.ref fD)=true)
   (uv:PySem.W.nsIn K mainGlobals "check_place"=some (some (.ref dW)))
   (ui:K.lookup dW=some ⟨oc_check_place,od_check_place,.func (PySem.W.fnOf "check_place" "check_place" (bB dC) (bw dC) (ae dC) .none F5 Gf F8 FT yI Gb),FQ⟩)
   (uy:PySem.W.codeIn K yI "check_place"=true)
   (uA:PySem.W.keepIn K (.ref dW)=true)
   (J9:PySem.W.nsIn K mainGlobals "toll"=some (some (.ref wz)))
   (JH:K.lookup wz=some ⟨oc_toll,od_toll,.func (PySem.W.fnOf "toll" "toll" (bB iT) (bw iT) (ae iT) .none Ua UG UD U3 Na UZ),U8⟩)
   (KN:PySem.W.codeIn K Na "toll"=true)
   (Ja:PySem.W.keepIn K (.ref wz)=true)
   (xZ:PySem.W.nsIn K mainGlobals "handed_on"=some (some (.ref gP)))
   (xo:K.lookup gP=some ⟨oc_handed_on,od_handed_on,.func (PySem.W.fnOf "handed_on" "handed_on" (bB eD) (bw eD) (ae eD) .none Ko Ji Jl Ie Bi JT),JX⟩)
   (xE:PySem.W.codeIn K Bi "handed_on"=true)
   (xf:PySem.W.keepIn K (.ref gP)=true)
   (vJ:PySem.W.nsIn K mainGlobals "neighbours"=some (some (.ref ka)))
   (vS:K.lookup ka=some ⟨oc_neighbours,od_neighbours,.func (PySem.W.fnOf "neighbours" "neighbours" (bB eB) (bw eB) (ae eB) .none Hi Hb HN Hs AQ HC),HS⟩)
   (wa:PySem.W.codeIn K AQ "neighbours"=true)
   (vD:PySem.W.keepIn K (.ref ka)=true)
   (Jw:PySem.W.nsIn K mainGlobals "kids"=some (some (.ref qG)))
   (Jv:K.lookup qG=some ⟨oc_kids,od_kids,.func (PySem.W.fnOf "kids" "kids" (bB lz) (bw lz) (ae lz) .none T7 Ut UA Uh MG Us),UU⟩)
   (Jj:PySem.W.codeIn K MG "kids"=true)
   (Ii:PySem.W.keepIn K (.ref qG)=true)
   (FV:PySem.W.nsIn K mainGlobals "ahead"=some (some (.ref nW)))
   (FS:K.lookup nW=some ⟨oc_ahead,od_ahead,.func (PySem.W.fnOf "ahead" "ahead" (bB f6) (bw f6) (ae f6) .none ST SG Td So Kr Sf),SM⟩)
   (Gp:PySem.W.codeIn K Kr "ahead"=true)
   (Gh:PySem.W.keepIn K (.ref nW)=true)
   (Kh:PySem.W.nsIn K mainGlobals "down"=some (some (.ref wk)))
   (JE:K.lookup wk=some ⟨oc_down,od_down,.func (PySem.W.fnOf "down" "down" (bB hV) (bw hV) (ae hV) .none UM Uw UC U4 MU UQ),Uu⟩)
   (JO:PySem.W.codeIn K MU "down"=true)
   (Kv:PySem.W.keepIn K (.ref wk)=true)
   (DR:PySem.W.nsIn K mainGlobals "inward"=some (some (.ref ik)))
   (DQ:K.lookup ik=some ⟨oc_inward,od_inward,.func (PySem.W.fnOf "inward" "inward" (bB fC) (bw fC) (ae fC) .none PM QC Pt Qq Gv PH),Qn⟩)
   (Em:PySem.W.codeIn K Gv "inward"=true)
   (Ev:PySem.W.keepIn K (.ref ik)=true)
   (yb:PySem.W.nsIn K mainGlobals "is_filled"=some (some (.ref gO)))
   (xM:K.lookup gO=some ⟨oc_is_filled,od_is_filled,.func (PySem.W.fnOf "is_filled" "is_filled" (bB eX) (bw eX) (ae eX) .none KO JI JF Kk Ca Kj),KZ⟩)
   (xU:PySem.W.codeIn K Ca "is_filled"=true)
   (xz:PySem.W.keepIn K (.ref gO)=true)
   (xW:PySem.W.nsIn K mainGlobals "laying_of"=some (some (.ref lJ)))
   (xH:K.lookup lJ=some ⟨oc_laying_of,od_laying_of,.func (PySem.W.fnOf "laying_of" "laying_of" (bB eU) (bw eU) (ae eU) .none IA Jg Jy K2 Ck Iv),KW⟩)
   (xy:PySem.W.codeIn K Ck "laying_of"=true)
   (yi:PySem.W.keepIn K (.ref lJ)=true)
   (Ch:PySem.W.nsIn K mainGlobals "wish_of"=some (some (.ref o6)))
   (B4:K.lookup o6=some ⟨oc_wish_of,od_wish_of,.func (PySem.W.fnOf "wish_of" "wish_of" (bB gH) (bw gH) (ae gH) .none NF Nm No NX Fi Ow),OH⟩)
   (B9:PySem.W.codeIn K Fi "wish_of"=true)
   (Cm:PySem.W.keepIn K (.ref o6)=true)
   (xK:PySem.W.nsIn K mainGlobals "standings"=some (some (.ref eW)))
   (xF:K.lookup eW=some ⟨oc_standings,od_standings,.func (PySem.W.fnOf "standings" "standings" (bB bT) (bw bT) (ae bT) .none Jb Je Iz I0 Bk IL),IV⟩)
   (yj:PySem.W.codeIn K Bk "standings"=true)
   (xu:PySem.W.keepIn K (.ref eW)=true)
   (Aj:PySem.W.nsIn K mainGlobals "standing"=some (some (.ref iA)))
   (Al:K.lookup iA=some ⟨oc_standing,od_standing,.func (PySem.W.fnOf "standing" "standing" (bB fg) (bw fg) (ae fg) .none LA Lx L9 Ml Dg Mo),Lv⟩)
   (y6:PySem.W.codeIn K Dg "standing"=true)
   (Ab:PySem.W.keepIn K (.ref iA)=true)
   (Ew:PySem.W.nsIn K mainGlobals "is_met"=some (some (.ref ic)))
   (D8:K.lookup ic=some ⟨oc_is_met,od_is_met,.func (PySem.W.fnOf "is_met" "is_met" (bB gU) (bw gU) (ae gU) .none QU Ql PU Ph GR Qz),QM⟩)
   (DU:PySem.W.codeIn K GR "is_met"=true)
   (Ej:PySem.W.keepIn K (.ref ic)=true)
   (zo:PySem.W.nsIn K mainGlobals "lacks_of"=some (some (.ref mZ)))
   (zN:K.lookup mZ=some ⟨oc_lacks_of,od_lacks_of,.func (PySem.W.fnOf "lacks_of" "lacks_of" (bB fu) (bw fu) (ae fu) .none Ly LK Mf Lq Di Mu),L8⟩)
   (zC:PySem.W.codeIn K Di "lacks_of"=true)
   (zR:PySem.W.keepIn K (.ref mZ)=true)
   (zD:PySem.W.nsIn K mainGlobals "steps_in"=some (some (.ref nB)))
   (zz:K.lookup nB=some ⟨oc_steps_in,od_steps_in,.func (PySem.W.fnOf "steps_in" "steps_in" (bB dg) (bw dg) (ae dg) .none LJ Lz Lj LP DC LN),Mt⟩)
   (zY:PySem.W.codeIn K DC "steps_in"=true)
   (zJ:PySem.W.keepIn K (.ref nB)=true)
   (xS:PySem.W.nsIn K mainGlobals "steps_out"=some (some (.ref lL)))
   (xv:K.lookup lL=some ⟨oc_steps_out,od_steps_out,.func (PySem.W.fnOf "steps_out" "steps_out" (bB cY) (bw cY) (ae cY) .none KL Kg IQ Kq Cp Ka),Iw⟩)
   (xG:PySem.W.codeIn K Cp "steps_out"=true)
   (xY:PySem.W.keepIn K (.ref lL)=true)
   (Bq:PySem.W.nsIn K mainGlobals "meeting"=some (some (.ref jI)))
   (Bf:K.lookup jI=some ⟨oc_meeting,od_meeting,.func (PySem.W.fnOf "meeting" "meeting" (bB fb) (bw fb) (ae fb) .none Oh OG Ot O1 EJ Nt),Oe⟩)
   (BN:PySem.W.codeIn K EJ "meeting"=true)
   (BO:PySem.W.keepIn K (.ref jI)=true)
   (rm:PySem.W.nsIn K mainGlobals "_law_tuples_too"=some (some (.ref gs)))
   (q8:K.lookup gs=some ⟨oc_law_tuples_too,od_law_tuples_too,.func (PySem.W.fnOf "_law_tuples_too" "_law_tuples_too" (bB cw) (bw cw) (ae cw) .none CN CU C2 CS uH C0),CM⟩)
   (q9:PySem.W.codeIn K uH "_law_tuples_too"=true)
   (rg:PySem.W.keepIn K (.ref gs)=true)
   (zE:PySem.W.nsIn K mainGlobals "_law_toll"=some (some (.ref nA)))
   (zc:K.lookup nA=some ⟨oc_law_toll,od_law_toll,.func (PySem.W.fnOf "_law_toll" "_law_toll" (bB jG) (bw jG) (ae jG) .none Lc Mi K9 La DJ LD),Mh⟩)
   (y8:PySem.W.codeIn K DJ "_law_toll"=true)
   (zB:PySem.W.keepIn K (.ref nA)=true)
   (xp:PySem.W.nsIn K mainGlobals "_law_roads"=some (some (.ref lO)))
   (xJ:K.lookup lO=some ⟨oc_law_roads,od_law_roads,.func (PySem.W.fnOf "_law_roads" "_law_roads" (bB cP) (bw cP) (ae cP) .none IJ JD Ia Kp B7 Ih),JN⟩)
   (ya:PySem.W.codeIn K B7 "_law_roads"=true)
   (yg:PySem.W.keepIn K (.ref lO)=true)
   (Cr:PySem.W.nsIn K mainGlobals "_law_web"=some (some (.ref pi)))
   (BK:K.lookup pi=some ⟨oc_law_web,od_law_web,.func (PySem.W.fnOf "_law_web" "_law_web" (bB fY) (bw fY) (ae fY) .none NJ Oa NN Nw E9 OA),Of⟩)
   (Cb:PySem.W.codeIn K E9 "_law_web"=true)
   (B2:PySem.W.keepIn K (.ref pi)=true)
   (zL:PySem.W.nsIn K mainGlobals "_law_wish"=some (some (.ref nF)))
   (zi:K.lookup nF=some ⟨oc_law_wish,od_law_wish,.func (PySem.W.fnOf "_law_wish" "_law_wish" (bB d3) (bw d3) (ae d3) .none L0 L3 Mm L6 Dz LC),Mc⟩)
   (y9:PySem.W.codeIn K Dz "_law_wish"=true)
   (zn:PySem.W.keepIn K (.ref nF)=true)
   (HX:PySem.W.nsIn K mainGlobals "law"=some (some (.ref NY)))
   (ND:K.lookup NY=some ⟨oc_law,od_law,.func (PySem.W.fnOf "law" "law" (bB cS) (bw cS) (ae cS) .none QD QB QK QV Jo Qe),Wm⟩)
   (Nl:PySem.W.codeIn K Jo "law"=true)
   (Nr:PySem.W.keepIn K (.ref NY)=true)
   (KI:PySem.W.plainGet K rV Str.empty=true)
   (Jd:PySem.W.hasDictIn K rV=true)
   (KM:PySem.W.plainOver K rV=true)
   (Ks:PySem.W.findIn K (.ref rV) "__setattr__"=some (some (.builtin "object.__setattr__")))
   (Ib:PySem.W.makesIn K rV=true)
   (Ig:PySem.W.keepIn K (.ref rV)=true)
   (n_many_Web:PySem.W.findIn K (.ref rV) "many"=some none)
   (n_roads_Web:PySem.W.findIn K (.ref rV) "roads"=some none)
   (z_range:PySem.W.nsIn K mainGlobals "range"=some none)
   (z_len:PySem.W.nsIn K mainGlobals "len"=some none)
   (z_isinstance:PySem.W.nsIn K mainGlobals "isinstance"=some none)
   (z_all:PySem.W.nsIn K mainGlobals "all"=some none)
   (z_int:PySem.W.nsIn K mainGlobals "int"=some none)
   (z_bool:PySem.W.nsIn K mainGlobals "bool"=some none)
   (z_tuple:PySem.W.nsIn K mainGlobals "tuple"=some none)
   (z_list:PySem.W.nsIn K mainGlobals "list"=some none)
   (z_reversed:PySem.W.nsIn K mainGlobals "reversed"=some none)
   (z_sorted:PySem.W.nsIn K mainGlobals "sorted"=some none)
   (z_min:PySem.W.nsIn K mainGlobals "min"=some none)
   (z_max:PySem.W.nsIn K mainGlobals "max"=some none)
   (z_str:PySem.W.nsIn K mainGlobals "str"=some none)
   (z_set:PySem.W.nsIn K mainGlobals "set"=some none)
   (v_MOST_PLACES:PySem.W.nsIn K mainGlobals "MOST_PLACES"=some (some (.int 24 t_MOST_PLACES)))
   (v_LEAST_TOLL:PySem.W.nsIn K mainGlobals "LEAST_TOLL"=some (some (.int 2 t_LEAST_TOLL)))
   (v_MOST_TOLL:PySem.W.nsIn K mainGlobals "MOST_TOLL"=some (some (.int 1000000 t_MOST_TOLL))) :
   ∃ fd:FuncData,(∀ (s:Shared) (v:Value),BindsTo s fd ⟨[v],[]⟩ [("script",v)])/\∀ base:Heap,K.In base->base.Ns mainGlobals mg->FnOk l.prog w K mg base (CXe l.prog w) 13 fa fd ["script"] (HV K):=by
 have e:=hfa.symm.trans (au X G HX);cases e
 let T:Txt K mg:=⟨IC,au X G Bp,wD,au X G z7,zI,au X G Bt,tY,au X G wb,wR,au X G Ai,rV,au X G KS,CG _ _ _ _ _ _ _ _ _ _ _ _ _ _ _ _ zA zf y3 zQ zH,CG _ _ _ _ _ _ _ _ _ _ _ _ _ _ _ _ Bd Bj B5 Bw Bc,CG _ _ _ _ _ _ _ _ _ _ _ _ _ _ _ _ ww wu vc vv vf,CG _ _ _ _ _ _ _ _ _ _ _ _ _ _ _ _ zV Ad ze zq Ao,PySem.W.mg_none_of X G z_range,PySem.W.mg_none_of X G z_len,PySem.W.mg_none_of X G z_isinstance,PySem.W.mg_none_of X G z_all,PySem.W.mg_none_of X G z_int,PySem.W.mg_none_of X G z_bool,PySem.W.mg_none_of X G z_tuple,PySem.W.mg_none_of X G z_list,PySem.W.mg_none_of X G z_reversed,PySem.W.mg_none_of X G z_sorted,PySem.W.mg_none_of X G z_min,PySem.W.mg_none_of X G z_max,PySem.W.mg_none_of X G z_str,PySem.W.mg_none_of X G z_set,⟨_,au X G v_MOST_PLACES⟩,⟨_,au X G v_LEAST_TOLL⟩,⟨_,au X G v_MOST_TOLL⟩,⟨KI,Jd,KM,Ks⟩,n_many_Web,n_roads_Web⟩
 have yG:=cq (st:=dA) sX tF tL;have FZ:=yG.binds (ps:=["many","roads"]) fun _ _ _ _ _ _ us hl=>by obtain ⟨u0,u1,rfl⟩:=us2 hl;rfl
 have jK:Df K mg "check_counts" dA ["many","roads"] ia _:=⟨yG,au X G tE,FZ⟩;have Fq:=cq (st:=g2) zu zm zZ;have Ol:=Fq.binds (ps:=["many","number"]) fun _ _ _ _ _ _ us hl=>by obtain ⟨u0,u1,rfl⟩:=us2 hl;rfl
 have fq:Df K mg "is_place" g2 ["many","number"] ir _:=⟨Fq,au X G zy,Ol⟩;have B3:=cq (st:=eS) vC wq vG;have KD:=B3.binds (ps:=["many","road"]) fun _ _ _ _ _ _ us hl=>by obtain ⟨u0,u1,rfl⟩:=us2 hl;rfl
 have my:Df K mg "check_ends" eS ["many","road"] j6 _:=⟨B3,au X G vY,KD⟩;have Bs:=cq (st:=eC) vT vx we;have J5:=Bs.binds (ps:=["roads","place"]) fun _ _ _ _ _ _ us hl=>by obtain ⟨u0,u1,rfl⟩:=us2 hl;rfl
 have fG:Df K mg "other_ends" eC ["roads","place"] f7 _:=⟨Bs,au X G vM,J5⟩;have yR:=cq (st:=cD) tN sV sU;have FL:=yR.binds (ps:=["many","roads"]) fun _ _ _ _ _ _ us hl=>by obtain ⟨u0,u1,rfl⟩:=us2 hl;rfl
 have jL:Df K mg "check_joined" cD ["many","roads"] im _:=⟨yR,au X G tT,FL⟩;have AJ:=cq (st:=dX) uq uj uk;have HH:=AJ.binds (ps:=["road"]) fun _ _ _ _ _ _ us hl=>by obtain ⟨u0,rfl⟩:=us1 hl;rfl
 have kN:Df K mg "check_tolls" dX ["road"] jc _:=⟨AJ,au X G ut,HH⟩;have pT:=cq (st:=cF) tP tm tS;have O0:=pT.binds (ps:=["self","many","roads"]) fun _ _ _ _ _ _ us hl=>by obtain ⟨u0,u1,u2,rfl⟩:=us3 hl;rfl
 have Dt:=cq (st:=eF) xX xI yf;have LW:=Dt.binds (ps:=["roads"]) fun _ _ _ _ _ _ us hl=>by obtain ⟨u0,rfl⟩:=us1 hl;rfl
 have nV:Df K mg "_law_tolls" eF ["roads"] lB _:=⟨Dt,au X G xL,LW⟩;have DP:=cq (st:=cU) xP xc xi;have LL:=DP.binds (ps:=["script","k"]) fun _ _ _ _ _ _ us hl=>by obtain ⟨u0,u1,rfl⟩:=us2 hl;rfl
 have bj:Df K mg "_law_drawn" cU ["script","k"] cC _:=⟨DP,au X G yh,LL⟩;have Dc:=cq (st:=gd) xO xT xa;have LX:=Dc.binds (ps:=["script"]) fun _ _ _ _ _ _ us hl=>by obtain ⟨u0,rfl⟩:=us1 hl;rfl
 have og:Df K mg "_law_bound" gd ["script"] lK _:=⟨Dc,au X G xD,LX⟩;have BH:=cq (st:=dZ) wd wo vL;have Iq:=BH.binds (ps:=["held","wish"]) fun _ _ _ _ _ _ us hl=>by obtain ⟨u0,u1,rfl⟩:=us2 hl;rfl
 have mG:Df K mg "_law_covers" dZ ["held","wish"] jM _:=⟨BH,au X G vw,Iq⟩;have FI:=cq (st:=eA) zU zt zd;have Nk:=FI.binds (ps:=["tolls","laying","steps"]) fun _ _ _ _ _ _ us hl=>by obtain ⟨u0,u1,u2,rfl⟩:=us3 hl;rfl
 have qf:Df K mg "_law_done" eA ["tolls","laying","steps"] nG _:=⟨FI,au X G zP,Nk⟩;have Fy:=cq (st:=dH) Ah y4 zF;have O2:=Fy.binds (ps:=["tolls","many","r"]) fun _ _ _ _ _ _ us hl=>by obtain ⟨u0,u1,u2,rfl⟩:=us3 hl;rfl
 have qc:Df K mg "_law_down" dH ["tolls","many","r"] nj _:=⟨Fy,au X G zr,O2⟩;have wS:=cq (st:=bF) rL rT sC;have Fe:=wS.binds (ps:=["tolls","many","laying","wish","r"]) fun _ _ _ _ _ _ us hl=>by obtain ⟨u0,u1,u2,u3,u4,rfl⟩:=us5 hl;rfl
 have d4:Df K mg "_law_standings" bF ["tolls","many","laying","wish","r"] eE _:=⟨wS,au X G sA,Fe⟩;have Fn:=cq (st:=dI) z9 zw zO;have OP:=Fn.binds (ps:=["script","tolls","many","laying","wish"]) fun _ _ _ _ _ _ us hl=>by obtain ⟨u0,u1,u2,u3,u4,rfl⟩:=us5 hl;rfl
 have pV:Df K mg "_law_edge" dI ["script","tolls","many","laying","wish"] mX _:=⟨Fn,au X G An,OP⟩;have BT:=cq (st:=c9) vP vU vg;have KJ:=BT.binds (ps:=["script","many","bound"]) fun _ _ _ _ _ _ us hl=>by obtain ⟨u0,u1,u2,rfl⟩:=us3 hl;rfl
 have mD:Df K mg "_law_laying" c9 ["script","many","bound"] j7 _:=⟨BT,au X G wv,KJ⟩;have DA:=cq (st:=eV) xm xx xt;have LS:=DA.binds (ps:=["number"]) fun _ _ _ _ _ _ us hl=>by obtain ⟨u0,rfl⟩:=us1 hl;rfl
 have gf:Df K mg "_law_whole" eV ["number"] gQ _:=⟨DA,au X G xQ,LS⟩;have ug:=cq (st:=bt) pj o3 o5;have Bb:=ug.binds (ps:=["steps"]) fun _ _ _ _ _ _ us hl=>by obtain ⟨u0,rfl⟩:=us1 hl;rfl
 have gF:Df K mg "_law_steps_formed" bt ["steps"] fD _:=⟨ug,au X G pF,Bb⟩;have AA:=cq (st:=dC) ui uy uA;have Hv:=AA.binds (ps:=["web","number"]) fun _ _ _ _ _ _ us hl=>by obtain ⟨u0,u1,rfl⟩:=us2 hl;rfl
 have ck:Df K mg "check_place" dC ["web","number"] dW _:=⟨AA,au X G uv,Hv⟩;have Pj:=cq (st:=iT) JH KN Ja;have V5:=Pj.binds (ps:=["web","a","b"]) fun _ _ _ _ _ _ us hl=>by obtain ⟨u0,u1,u2,rfl⟩:=us3 hl;rfl
 have sf:Df K mg "toll" iT ["web","a","b"] wz _:=⟨Pj,au X G J9,V5⟩;have DG:=cq (st:=eD) xo xE xf;have Lk:=DG.binds (ps:=["web","over","place","front"]) fun _ _ _ _ _ _ us hl=>by obtain ⟨u0,u1,u2,u3,rfl⟩:=us4 hl;rfl
 have gg:Df K mg "handed_on" eD ["web","over","place","front"] gP _:=⟨DG,au X G xZ,Lk⟩;have Cg:=cq (st:=eB) vS wa vD;have J4:=Cg.binds (ps:=["web","a"]) fun _ _ _ _ _ _ us hl=>by obtain ⟨u0,u1,rfl⟩:=us2 hl;rfl
 have mF:Df K mg "neighbours" eB ["web","a"] ka _:=⟨Cg,au X G vJ,J4⟩;have QJ:=cq (st:=lz) Jv Jj Ii;have Vb:=QJ.binds (ps:=["web","place","front"]) fun _ _ _ _ _ _ us hl=>by obtain ⟨u0,u1,u2,rfl⟩:=us3 hl;rfl
 have pE:Df K mg "kids" lz ["web","place","front"] qG _:=⟨QJ,au X G Jw,Vb⟩;have ML:=cq (st:=f6) FS Gp Gh;have UI:=ML.binds (ps:=["web","r"]) fun _ _ _ _ _ _ us hl=>by obtain ⟨u0,u1,rfl⟩:=us2 hl;rfl
 have mz:Df K mg "ahead" f6 ["web","r"] nW _:=⟨ML,au X G FV,UI⟩;have Pa:=cq (st:=hV) JE JO Kv;have VZ:=Pa.binds (ps:=["web","r"]) fun _ _ _ _ _ _ us hl=>by obtain ⟨u0,u1,rfl⟩:=us2 hl;rfl
 have yM:Df K mg "down" hV ["web","r"] wk _:=⟨Pa,au X G Kh,VZ⟩;have KF:=cq (st:=fC) DQ Em Ev;have Q8:=KF.binds (ps:=["web","r"]) fun _ _ _ _ _ _ us hl=>by obtain ⟨u0,u1,rfl⟩:=us2 hl;rfl
 have fV:Df K mg "inward" fC ["web","r"] ik _:=⟨KF,au X G DR,Q8⟩;have DE:=cq (st:=eX) xM xU xz;have Mb:=DE.binds (ps:=["web","numbers"]) fun _ _ _ _ _ _ us hl=>by obtain ⟨u0,u1,rfl⟩:=us2 hl;rfl
 have gc:Df K mg "is_filled" eX ["web","numbers"] gO _:=⟨DE,au X G yb,Mb⟩;have DB:=cq (st:=eU) xH xy yi;have Lh:=DB.binds (ps:=["web","numbers"]) fun _ _ _ _ _ _ us hl=>by obtain ⟨u0,u1,rfl⟩:=us2 hl;rfl
 have nU:Df K mg "laying_of" eU ["web","numbers"] lJ _:=⟨DB,au X G xW,Lh⟩;have GD:=cq (st:=gH) B4 B9 Cm;have Qg:=GD.binds (ps:=["web","numbers"]) fun _ _ _ _ _ _ us hl=>by obtain ⟨u0,u1,rfl⟩:=us2 hl;rfl
 have rz:Df K mg "wish_of" gH ["web","numbers"] o6 _:=⟨GD,au X G Ch,Qg⟩;have Dk:=cq (st:=bT) xF yj xu;have Lu:=Dk.binds (ps:=["web","laying","wish","r"]) fun _ _ _ _ _ _ us hl=>by obtain ⟨u0,u1,u2,u3,rfl⟩:=us4 hl;rfl
 have dL:Df K mg "standings" bT ["web","laying","wish","r"] eW _:=⟨Dk,au X G xK,Lu⟩;have EF:=cq (st:=fg) Al y6 Ab;have Nz:=EF.binds (ps:=["web","laying","wish","r"]) fun _ _ _ _ _ _ us hl=>by obtain ⟨u0,u1,u2,u3,rfl⟩:=us4 hl;rfl
 have gS:Df K mg "standing" fg ["web","laying","wish","r"] iA _:=⟨EF,au X G Aj,Nz⟩;have K3:=cq (st:=gU) D8 DU Ej;have Rt:=K3.binds (ps:=["web","laying","wish"]) fun _ _ _ _ _ _ us hl=>by obtain ⟨u0,u1,u2,rfl⟩:=us3 hl;rfl
 have fW:Df K mg "is_met" gU ["web","laying","wish"] ic _:=⟨K3,au X G Ew,Rt⟩;have EX:=cq (st:=fu) zN zC zR;have O8:=EX.binds (ps:=["web","laying","wish"]) fun _ _ _ _ _ _ us hl=>by obtain ⟨u0,u1,u2,rfl⟩:=us3 hl;rfl
 have qa:Df K mg "lacks_of" fu ["web","laying","wish"] mZ _:=⟨EX,au X G zo,O8⟩;have E1:=cq (st:=dg) zz zY zJ;have Ov:=E1.binds (ps:=["web","laying","wish","r"]) fun _ _ _ _ _ _ us hl=>by obtain ⟨u0,u1,u2,u3,rfl⟩:=us4 hl;rfl
 have qd:Df K mg "steps_in" dg ["web","laying","wish","r"] nB _:=⟨E1,au X G zD,Ov⟩;have Dv:=cq (st:=cY) xv xG xY;have MA:=Dv.binds (ps:=["web","laying","wish","r"]) fun _ _ _ _ _ _ us hl=>by obtain ⟨u0,u1,u2,u3,rfl⟩:=us4 hl;rfl
 have oj:Df K mg "steps_out" cY ["web","laying","wish","r"] lL _:=⟨Dv,au X G xS,MA⟩;have Gz:=cq (st:=fb) Bf BN BO;have QI:=Gz.binds (ps:=["web","laying","wish"]) fun _ _ _ _ _ _ us hl=>by obtain ⟨u0,u1,u2,rfl⟩:=us3 hl;rfl
 have eG:Df K mg "meeting" fb ["web","laying","wish"] jI _:=⟨Gz,au X G Bq,QI⟩;have vF:=cq (st:=cw) q8 q9 rg;have Et:=vF.binds (ps:=["web","laying","wish"]) fun _ _ _ _ _ _ us hl=>by obtain ⟨u0,u1,u2,rfl⟩:=us3 hl;rfl
 have h9:Df K mg "_law_tuples_too" cw ["web","laying","wish"] gs _:=⟨vF,au X G rm,Et⟩;have EU:=cq (st:=jG) zc y8 zB;have Om:=EU.binds (ps:=["part"]) fun _ _ _ _ _ _ us hl=>by obtain ⟨u0,rfl⟩:=us1 hl;rfl
 have jD:Df K mg "_law_toll" jG ["part"] nA _:=⟨EU,au X G zE,Om⟩;have Dr:=cq (st:=cP) xJ ya yg;have MB:=Dr.binds (ps:=["script","many","shape"]) fun _ _ _ _ _ _ us hl=>by obtain ⟨u0,u1,u2,rfl⟩:=us3 hl;rfl
 have nX:Df K mg "_law_roads" cP ["script","many","shape"] lO _:=⟨Dr,au X G xp,MB⟩;have GS:=cq (st:=fY) BK Cb B2;have P2:=GS.binds (ps:=["script","reach"]) fun _ _ _ _ _ _ us hl=>by obtain ⟨u0,u1,rfl⟩:=us2 hl;rfl
 have rE:Df K mg "_law_web" fY ["script","reach"] pi _:=⟨GS,au X G Cr,P2⟩;have E8:=cq (st:=d3) zi y9 zn;have Os:=E8.binds (ps:=["script","many","bound"]) fun _ _ _ _ _ _ us hl=>by obtain ⟨u0,u1,u2,rfl⟩:=us3 hl;rfl
 have p4:Df K mg "_law_wish" d3 ["script","many","bound"] nF _:=⟨E8,au X G zL,Os⟩;have TV:=cq (st:=cS) ND Nl Nr;have Wr:=TV.binds (ps:=["script"]) fun _ _ _ _ _ _ us hl=>by obtain ⟨u0,rfl⟩:=us1 hl;rfl
 have Wx:Df K mg "law" cS ["script"] fa _:=⟨TV,au X G HX,Wr⟩;refine ⟨PySem.W.fnOf "law" "law" (bB cS) (bw cS) (ae cS) .none QD QB QK QV Jo Qe,fun s v=>.of_eq rfl,fun base _ _=>?_⟩;have NZ:Mk K T.Web f_Web___init__:=⟨Ib,tI,tj,Ig⟩;have sY:=FB (P:=l.prog) (w:=w) (base:=base) T ce jK;have m8:=LM (P:=l.prog) (w:=w) (base:=base) T ce fq;have wt:=Hj (P:=l.prog) (w:=w) (base:=base) T ce my fq m8;have mw:=Ha (P:=l.prog) (w:=w) (base:=base) T ce fG;have tQ:=EZ (P:=l.prog) (w:=w) (base:=base) T ce jL fG mw;have uw:=Gc (P:=l.prog) (w:=w) (base:=base) T ce kN;have G_Web_init:=Fu (P:=l.prog) (w:=w) (base:=base) T ce pT jK sY my wt jL tQ kN uw;have xV:=JG (P:=l.prog) (w:=w) (base:=base) T ce nV;have cQ:=KC (P:=l.prog) (w:=w) (base:=base) T ce bj;have xC:=KA (P:=l.prog) (w:=w) (base:=base) T ce og bj cQ;have vh:=Hy (P:=l.prog) (w:=w) (base:=base) T ce mG;have zj:=Li (P:=l.prog) (w:=w) (base:=base) T ce qf;have yZ:=Md (P:=l.prog) (w:=w) (base:=base) T ce qc;have ja:=Ee (P:=l.prog) (w:=w) (base:=base) T ce d4 qc yZ;have zM:=Mv (P:=l.prog) (w:=w) (base:=base) T ce pV bj cQ d4 ja;have vz:=Hh (P:=l.prog) (w:=w) (base:=base) T ce mD bj cQ;have oh:=KR (P:=l.prog) (w:=w) (base:=base) T ce gf;have pG:=AX (P:=l.prog) (w:=w) (base:=base) T ce gF gf oh;have fM:=Gk (P:=l.prog) (w:=w) (base:=base) T ce ck fq m8;have Fw:=Ul (P:=l.prog) (w:=w) (base:=base) T ce sf ck fM;have om:=JY (P:=l.prog) (w:=w) (base:=base) T ce gg sf Fw;have ve:=HP (P:=l.prog) (w:=w) (base:=base) T ce mF ck fM fG mw;have yo:=Ug (P:=l.prog) (w:=w) (base:=base) T ce pE mF ve;have uZ:=TB (P:=l.prog) (w:=w) (base:=base) T ce mz ck fM pE yo;have JM:=UB (P:=l.prog) (w:=w) (base:=base) T ce yM mz uZ pE yo;have mV:=P8 (P:=l.prog) (w:=w) (base:=base) T ce fV mz uZ yM JM;have nY:=Ij (P:=l.prog) (w:=w) (base:=base) T ce gc;have xw:=K0 (P:=l.prog) (w:=w) (base:=base) T ce nU gc nY;have BU:=O7 (P:=l.prog) (w:=w) (base:=base) T ce rz gc nY;have iu:=IZ (P:=l.prog) (w:=w) (base:=base) T ce dL gg om fV mV nU xw rz BU;have pR:=Mr (P:=l.prog) (w:=w) (base:=base) T ce gS dL iu;have m7:=PB (P:=l.prog) (w:=w) (base:=base) T ce fW gS pR;have zx:=Lg (P:=l.prog) (w:=w) (base:=base) T ce qa gS pR;have Ak:=LO (P:=l.prog) (w:=w) (base:=base) T ce qd gg om fV mV dL iu;have xR:=KY (P:=l.prog) (w:=w) (base:=base) T ce oj fV mV dL iu;have mS:=Oq (P:=l.prog) (w:=w) (base:=base) T ce eG fW m7 qa zx qd Ak oj xR;have rn:=CZ (P:=l.prog) (w:=w) (base:=base) T ce h9 fW m7 eG mS;have uT:=Lb (P:=l.prog) (w:=w) (base:=base) T ce jD;have xA:=K1 (P:=l.prog) (w:=w) (base:=base) T ce nX bj cQ jD uT;have Cf:=Np (P:=l.prog) (w:=w) (base:=base) T ce rE bj cQ nX xA;have zX:=Ms (P:=l.prog) (w:=w) (base:=base) T ce p4 bj cQ;have Ws:=Vr (P:=l.prog) (w:=w) (base:=base) T ce Wx pT O0 NZ G_Web_init og xC mG vh qf zj pV zM mD vz d4 ja gF pG nV xV h9 rn rE Cf gf oh p4 zX fW m7 eG mS;exact Ws
theorem walk {l:PySem.W.OpenLaw} {q:Program} {loose:List Str} {XP:(Str->Option Value)->Heap->Prop} {YP:World->Heap->Prop} {d:DefRec} {K:Params->PySem.W.Frag} (hn:l.most=some 63) (hdf:d.params.defaults=[])
   (hY:∀ (w:World) (h:Heap),YP w h->(K w.params).In h)
   (F:∀ (w:World) (mg:Str->Option Value) (fa:Addr) (h:Heap),(K w.params).In h->h.Ns mainGlobals mg->mg d.name=some (.ref fa) ->
     ∃ fd:FuncData,(∀ (s:Shared) (u:Value),BindsTo s fd ⟨[u],[]⟩ [("script",u)])/\∀ base:Heap,(K w.params).In base->base.Ns mainGlobals mg->FnOk l.prog w (K w.params) mg base (CXe l.prog w) 13 fa fd ["script"] (HV (K w.params))) :
   PySem.W.WalkO q loose XP YP l.row.toRowW d [] (fun f vs=>PySem.call f vs) :=
 L2.walk_of (n:=63) (k:=13) (x:="script") (CX:=fun w=>(CXe l.prog w)) (sp:=fun w=>HV (K w.params)) hn (by decide) hdf ⟨rfl,by decide,by decide⟩ hY F (fun _ _ a ns hl _ hS=>⟨a,ns,rfl,hS,hl,fun _=>rfl⟩) fun _ _ _ _ _ z=>ce _ _ _ _ _ z
end Pk
open PySem PySem.W PyProof.Rows
set_option maxRecDepth 100000 in
set_option maxHeartbeats 0 in
theorem PySem.Challenge.cw_pebbletoll_k25_whole_steps_that_meet_holds : PySem.Challenge.rw_pebbletoll_k25_whole_steps_that_meet.Holds := by
 w_on;o_law
 refine PySem.W.holds_open (q:=Hd.qq) (loose:=[]) (Xt:=(fun s=>PySem.W.xlAt Hd.qq [] s && PySem.W.recOk (PySem.W.RowW.records (PySem.W.OpenRow.toRowW (PySem.Challenge.rw_pebbletoll_k25_whole_steps_that_meet).row)) s)) (XP:=PySem.W.XL Hd.qq []) (Yf:=PySem.W.Hook.obs (PySem.W.kHook Hd.KK Hd.asK Hd.asK_eq)) (Ya:=PySem.W.Hook.val (PySem.W.kHook Hd.KK Hd.asK Hd.asK_eq)) (YP:=PySem.W.Hook.says (PySem.W.kHook Hd.KK Hd.asK Hd.asK_eq)) (N:=5778) Hd.left (PySem.W.Hook.of (PySem.W.kHook Hd.KK Hd.asK Hd.asK_eq)) (PySem.W.Hook.keeps (PySem.W.kHook Hd.KK Hd.asK Hd.asK_eq)) (fun s e=>PySem.W.xl_of s (oJ.mp e).1) PySem.W.XL.keeps (by rfl) (by rfl) (by rfl) (fun s e=>PySem.W.recFacts_of (oJ.mp e).2) (by rfl) (by assumption) (by decide +kernel) ⟨rfl,rfl,rfl,rfl,rfl,by decide +kernel⟩ ?hw ?hc
 (case hw=>w_witness2)
 k_fill
 refine Pk.walk (l:=PySem.Challenge.rw_pebbletoll_k25_whole_steps_that_meet) rfl rfl (fun w h Y=>PySem.W.kIn_of Y) ?F
 case F =>
   intro w mg fa h KX G hmg;refine' Pk.all_mk KX G hmg ?Bp ?z7 ?Bt ?wb ?Ai ?KS ?zA ?zf ?y3 ?zQ ?zH ?Bd ?Bj ?B5 ?Bw ?Bc ?ww ?wu ?vc ?vv ?vf ?zV ?Ad ?ze ?zq ?Ao ?tE ?sX ?tF ?tL ?zy ?zu ?zm ?zZ ?vY ?vC ?wq ?vG ?vM ?vT ?vx ?we ?tT ?tN ?sV ?sU ?ut ?uq ?uj ?uk ?tI ?tj ?tP ?tm ?tS ?xL ?xX ?xI ?yf ?yh ?xP ?xc ?xi ?xD ?xO ?xT ?xa ?vw ?wd ?wo ?vL ?zP ?zU ?zt ?zd ?zr ?Ah ?y4 ?zF ?sA ?rL ?rT ?sC ?An ?z9 ?zw ?zO ?wv ?vP ?vU ?vg ?xQ ?xm ?xx ?xt ?pF ?pj ?o3 ?o5 ?uv ?ui ?uy ?uA ?J9 ?JH ?KN ?Ja ?xZ ?xo ?xE ?xf ?vJ ?vS ?wa ?vD ?Jw ?Jv ?Jj ?Ii ?FV ?FS ?Gp ?Gh ?Kh ?JE ?JO ?Kv ?DR ?DQ ?Em ?Ev ?yb ?xM ?xU ?xz ?xW ?xH ?xy ?yi ?Ch ?B4 ?B9 ?Cm ?xK ?xF ?yj ?xu ?Aj ?Al ?y6 ?Ab ?Ew ?D8 ?DU ?Ej ?zo ?zN ?zC ?zR ?zD ?zz ?zY ?zJ ?xS ?xv ?xG ?xY ?Bq ?Bf ?BN ?BO ?rm ?q8 ?q9 ?rg ?zE ?zc ?y8 ?zB ?xp ?xJ ?ya ?yg ?Cr ?BK ?Cb ?B2 ?zL ?zi ?y9 ?zn ?HX ?ND ?Nl ?Nr ?KI ?Jd ?KM ?Ks ?Ib ?Ig ?n_many_Web ?n_roads_Web ?z_range ?z_len ?z_isinstance ?z_all ?z_int ?z_bool ?z_tuple ?z_list ?z_reversed ?z_sorted ?z_min ?z_max ?z_str ?z_set ?v_MOST_PLACES ?v_LEAST_TOLL ?v_MOST_TOLL
   (case Bp=>k_is)
   (case z7=>k_is)
   (case Bt=>k_is)
   (case wb=>k_is)
   (case Ai=>k_is)
   (case KS=>k_is)
   (case zA=>k_is)
   (case zf=>rfl)
   (case y3=>kernel_rfl)
   (case zQ=>k_is)
   (case zH=>kernel_rfl)
   (case Bd=>k_is)
   (case Bj=>rfl)
   (case B5=>kernel_rfl)
   (case Bw=>k_is)
   (case Bc=>kernel_rfl)
   (case ww=>k_is)
   (case wu=>rfl)
   (case vc=>kernel_rfl)
   (case vv=>k_is)
   (case vf=>kernel_rfl)
   (case zV=>k_is)
   (case Ad=>rfl)
   (case ze=>kernel_rfl)
   (case zq=>k_is)
   (case Ao=>kernel_rfl)
   (case tE=>k_is)
   (case sX=>k_is)
   (case tF=>k_is)
   (case tL=>k_is)
   (case zy=>k_is)
   (case zu=>k_is)
   (case zm=>k_is)
   (case zZ=>k_is)
   (case vY=>k_is)
   (case vC=>k_is)
   (case wq=>k_is)
   (case vG=>k_is)
   (case vM=>k_is)
   (case vT=>k_is)
   (case vx=>k_is)
   (case we=>k_is)
   (case tT=>k_is)
   (case tN=>k_is)
   (case sV=>k_is)
   (case sU=>k_is)
   (case ut=>k_is)
   (case uq=>k_is)
   (case uj=>k_is)
   (case uk=>k_is)
   (case tI=>k_is)
   (case tj=>k_is)
   (case tP=>k_is)
   (case tm=>k_is)
   (case tS=>k_is)
   (case xL=>k_is)
   (case xX=>k_is)
   (case xI=>k_is)
   (case yf=>k_is)
   (case yh=>k_is)
   (case xP=>k_is)
   (case xc=>k_is)
   (case xi=>k_is)
   (case xD=>k_is)
   (case xO=>k_is)
   (case xT=>k_is)
   (case xa=>k_is)
   (case vw=>k_is)
   (case wd=>k_is)
   (case wo=>k_is)
   (case vL=>k_is)
   (case zP=>k_is)
   (case zU=>k_is)
   (case zt=>k_is)
   (case zd=>k_is)
   (case zr=>k_is)
   (case Ah=>k_is)
   (case y4=>k_is)
   (case zF=>k_is)
   (case sA=>k_is)
   (case rL=>k_is)
   (case rT=>k_is)
   (case sC=>k_is)
   (case An=>k_is)
   (case z9=>k_is)
   (case zw=>k_is)
   (case zO=>k_is)
   (case wv=>k_is)
   (case vP=>k_is)
   (case vU=>k_is)
   (case vg=>k_is)
   (case xQ=>k_is)
   (case xm=>k_is)
   (case xx=>k_is)
   (case xt=>k_is)
   (case pF=>k_is)
   (case pj=>k_is)
   (case o3=>k_is)
   (case o5=>k_is)
   (case uv=>k_is)
   (case ui=>k_is)
   (case uy=>k_is)
   (case uA=>k_is)
   (case J9=>k_is)
   (case JH=>k_is)
   (case KN=>k_is)
   (case Ja=>k_is)
   (case xZ=>k_is)
   (case xo=>k_is)
   (case xE=>k_is)
   (case xf=>k_is)
   (case vJ=>k_is)
   (case vS=>k_is)
   (case wa=>k_is)
   (case vD=>k_is)
   (case Jw=>k_is)
   (case Jv=>k_is)
   (case Jj=>k_is)
   (case Ii=>k_is)
   (case FV=>k_is)
   (case FS=>k_is)
   (case Gp=>k_is)
   (case Gh=>k_is)
   (case Kh=>k_is)
   (case JE=>k_is)
   (case JO=>k_is)
   (case Kv=>k_is)
   (case DR=>k_is)
   (case DQ=>k_is)
   (case Em=>k_is)
   (case Ev=>k_is)
   (case yb=>k_is)
   (case xM=>k_is)
   (case xU=>k_is)
   (case xz=>k_is)
   (case xW=>k_is)
   (case xH=>k_is)
   (case xy=>k_is)
   (case yi=>k_is)
   (case Ch=>k_is)
   (case B4=>k_is)
   (case B9=>k_is)
   (case Cm=>k_is)
   (case xK=>k_is)
   (case xF=>k_is)
   (case yj=>k_is)
   (case xu=>k_is)
   (case Aj=>k_is)
   (case Al=>k_is)
   (case y6=>k_is)
   (case Ab=>k_is)
   (case Ew=>k_is)
   (case D8=>k_is)
   (case DU=>k_is)
   (case Ej=>k_is)
   (case zo=>k_is)
   (case zN=>k_is)
   (case zC=>k_is)
   (case zR=>k_is)
   (case zD=>k_is)
   (case zz=>k_is)
   (case zY=>k_is)
   (case zJ=>k_is)
   (case xS=>k_is)
   (case xv=>k_is)
   (case xG=>k_is)
   (case xY=>k_is)
   (case Bq=>k_is)
   (case Bf=>k_is)
   (case BN=>k_is)
   (case BO=>k_is)
   (case rm=>k_is)
   (case q8=>k_is)
   (case q9=>k_is)
   (case rg=>k_is)
   (case zE=>k_is)
   (case zc=>k_is)
   (case y8=>k_is)
   (case zB=>k_is)
   (case xp=>k_is)
   (case xJ=>k_is)
   (case ya=>k_is)
   (case yg=>k_is)
   (case Cr=>k_is)
   (case BK=>k_is)
   (case Cb=>k_is)
   (case B2=>k_is)
   (case zL=>k_is)
   (case zi=>k_is)
   (case y9=>k_is)
   (case zn=>k_is)
   (case HX=>k_is)
   (case ND=>k_is)
   (case Nl=>k_is)
   (case Nr=>k_is)
   (case KI=>k_is)
   (case Jd=>k_is)
   (case KM=>k_is)
   (case Ks=>k_is)
   (case Ib=>k_is)
   (case Ig=>k_is)
   (case n_many_Web=>k_is)
   (case n_roads_Web=>k_is)
   (case z_range=>k_is)
   (case z_len=>k_is)
   (case z_isinstance=>k_is)
   (case z_all=>k_is)
   (case z_int=>k_is)
   (case z_bool=>k_is)
   (case z_tuple=>k_is)
   (case z_list=>k_is)
   (case z_reversed=>k_is)
   (case z_sorted=>k_is)
   (case z_min=>k_is)
   (case z_max=>k_is)
   (case z_str=>k_is)
   (case z_set=>k_is)
   (case v_MOST_PLACES=>k_is)
   (case v_LEAST_TOLL=>k_is)
   (case v_MOST_TOLL=>k_is)
#print axioms PySem.Challenge.cw_pebbletoll_k25_whole_steps_that_meet_holds