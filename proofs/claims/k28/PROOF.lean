import PyProof.Rows.All
import Wide.All
import OpenK.AllK
import Wide.FinOn
import Lean
import PyProof.EqAt
import PyProof.EqKinds
import PyProof.TupleCall
import PyProof.P3Eq
import PyProof.NeData
import PyProof.FitsBits
import PyProof.ZipIter
import PyProof.TupleIter
import KE.KRevIter
import PyProof.TupleOfGen
import PyProof.ListRange
import KE.KIsAll
import PyProof.ExcArgsOwn
import OpenK.KDescr
import PyProof.StationsW
import PyProof.ExcBaseAll.ValueError
import OpenK.KOwn
import PyProof.RulesAs
import PyProof.RulesDel
import PyProof.Rows.SortWalk
import PyProof.CompUse
import KE.KDictSum
import PyProof.WalkInts
import KE.KSortTup
import PyProof.Rows.TupDisplay
import KE.KIntText
import PyProof.JoinWalk
import PyProof.ExcInit
import PyProof.ExcClass2
import KE.KRevSl
import KE.KSetAt
import PySem.Challenge.RW_pebbletoll_k28_answers_judged
set_option Elab.async false
set_option linter.all false
set_option maxRecDepth 100000
def ce:=@Array.getElem?_eq_getElem
def gY:=@Array.getElem?_eq_none
def eL:=@Array.getElem?_eq_some_iff
def dL:=@Array.getElem?_toList
def iU:=@Array.length_toList
def my:=@Array.perm_iff_toList_perm
def bq:=@Bool.and_eq_true
def qQ:=@Bool.and_eq_true_iff
def qA:=@Bool.and_false
def nF:=@Bool.eq_false_iff
def da:=@Bool.eq_iff_iff
def ff:=@Bool.false_and
def bB:=@Bool.false_eq_true
def aP:=@Bool.false_ne_true
def gR:=@Bool.not_eq_true'
def mY:=@Bool.or_true
def ju:=@Bool.true_and
def lW:=@PySem.Calls.Name_function_global
def mz:=@PySem.Calls.call_function_entry
def ii:=@PySem.Calls.evalArgs_plain
def fC:=@PySem.Calls.spliced_cons
def fQ:=@PySem.Calls.spliced_nil
def iP:=@PySem.Code.quiet_builtin
def j5:=@PySem.F.args_dict_keyiterator_next_1
def kO:=@PySem.F.args_tuple_iterator_next_1
def kj:=@PySem.F.entry_dict_keyiterator_next
def lH:=@PySem.F.entry_tuple_iterator_next
def dS:=@PySem.F.slot_dict_keyiterator_next
def kc:=@PySem.F.slot_set_init
def fS:=@PySem.F.slot_tuple_iterator_next
def ke:=@PySem.F.slot_zip_next
def dY:=@PySem.Heap.SameBut.update
def fW:=@PySem.Heap.get?_none_of_le
def ap:=@PySem.Heap.get?_push_of_some
def aJ:=@PySem.Heap.get?_push_size
def bR:=@PySem.Heap.get?_update_other
def bI:=@PySem.Heap.get?_update_self
def aw:=@PySem.Heap.lt_size
def cm:=@PySem.Heap.size_push
def bC:=@Int.emod_lt_of_pos
def bx:=@Int.emod_nonneg
def me:=@Int.fdiv_eq_ediv_of_nonneg
def i9:=@Int.le_refl
def rn:=@Int.mul_comm
def qY:=@Int.ne_of_gt
def bF:=@Int.toNat_natCast
def gf:=@Int.toNat_of_nonneg
def iE:=@Int.zero_add
def jX:=@List.Perm.append_left
def iX:=@List.Perm.refl
def qB:=@List.all_cons
def fk:=@List.all_eq_true
def gZ:=@List.any_cons
def cq:=@List.append_assoc
def bG:=@List.append_nil
def j6:=@List.concat_eq_append
def mh:=@List.cons.inj
def nR:=@List.cons_append
def dB:=@List.contains_cons
def mx:=@List.drop_eq_getElem_cons
def nU:=@List.drop_length
def oZ:=@List.drop_of_length_le
def k9:=@List.drop_zero
def jS:=@List.eq_nil_iff_forall_not_mem
def jU:=@List.eq_nil_or_concat
def eO:=@List.ext_getElem?
def iG:=@List.filterMap_cons
def fD:=@List.filter_append
def gr:=@List.find?_cons
def jV:=@List.findSome?_append
def lC:=@List.findSome?_cons
def qO:=@List.flatMap_append
def dP:=@List.flatMap_cons
def fP:=@List.flatten_cons
def oN:=@List.forIn_cons
def lN:=@List.getD_eq_getElem?_getD
def eJ:=@List.getElem?_append_left
def eC:=@List.getElem?_append_right
def oj:=@List.getElem?_cons_succ
def og:=@List.getElem?_cons_zero
def aD:=@List.getElem?_eq_getElem
def bJ:=@List.getElem?_eq_none
def aB:=@List.getElem?_eq_some_iff
def aU:=@List.getElem?_map
def cG:=@List.getElem?_of_mem
def lF:=@List.getElem?_range
def jd:=@List.getElem?_replicate
def dz:=@List.getElem?_reverse
def kI:=@List.getElem?_set_ne
def o0:=@List.getElem?_set_self
def gd:=@List.getElem?_take_of_lt
def oX:=@List.getElem_cons_drop
def jJ:=@List.getElem_map
def hV:=@List.getElem_mem
def qH:=@List.getElem_of_mem
def au:=@List.length_append
def aQ:=@List.length_cons
def cV:=@List.length_drop
def nZ:=@List.length_eq_zero_iff
def gU:=@List.length_filter_le
def ak:=@List.length_map
def f7:=@List.length_nil
def iM:=@List.length_range
def fJ:=@List.length_replicate
def bj:=@List.length_reverse
def cX:=@List.length_set
def bo:=@List.length_take
def nD:=@List.length_zip
def bW:=@List.lookup_cons
def aK:=@List.map_append
def ku:=@List.map_congr_left
def aW:=@List.map_cons
def pG:=@List.map_drop
def mj:=@List.map_map
def gc:=@List.map_nil
def mB:=@List.map_reverse
def dJ:=@List.map_set
def pL:=@List.map_take
def aY:=@List.mem_append
def bp:=@List.mem_append_left
def aV:=@List.mem_append_right
def az:=@List.mem_cons
def aL:=@List.mem_cons_of_mem
def aO:=@List.mem_cons_self
def pp:=@List.mem_erase_of_ne
def d9:=@List.mem_filter
def ji:=@List.mem_flatMap
def cu:=@List.mem_map
def df:=@List.mem_nil_iff
def bd:=@List.mem_of_getElem?
def pi:=@List.mem_of_mem_drop
def cN:=@List.mem_range
def aI:=@List.mem_singleton
def ic:=@List.nil_append
def gI:=@List.nodup_append
def ba:=@List.nodup_cons
def mF:=@List.not_mem_nil
def jL:=@List.of_mem_zip
def lr:=@List.pairwise_cons
def ip:=@List.pairwise_iff_getElem
def lG:=@List.perm_append_singleton
def jQ:=@List.range_succ
def cF:=@List.replicate_succ
def pW:=@List.reverse_append
def fH:=@List.reverse_cons
def aG:=@List.size_toArray
def lm:=@List.sum_cons
def gP:=@List.take_append_drop
def db:=@List.take_length
def c6:=@List.take_of_length_le
def bS:=@List.take_succ
def cR:=@List.take_zero
def jl:=@Nat.le_add_right
def jr:=@Nat.le_of_lt
def aA:=@Nat.le_refl
def dE:=@Nat.le_succ
def bP:=@Nat.le_trans
def dl:=@Nat.lt_irrefl
def aM:=@Nat.lt_of_lt_of_le
def lQ:=@Nat.lt_succ_of_lt
def jm:=@Nat.lt_succ_self
def dI:=@Nat.ne_of_gt
def aE:=@Nat.ne_of_lt
def nG:=@Nat.not_lt_zero
def mq:=@Nat.sub_self
def qG:=@Nat.sub_zero
def ms:=@Nat.succ.inj
def bi:=@Nat.zero_le
def gG:=@PySem.Obj.cls_mapFields
def bK:=@PySem.Obj.data_mapFields
def cM:=@PySem.Obj.isFreed_of_fields
def mE:=@Option.bind_some
def eK:=@Option.isSome_iff_exists
def gL:=@Option.isSome_map
def bM:=@Option.map_eq_some_iff
def jO:=@Option.map_some
def bh:=@Option.some.inj
def jH:=@PyProof.Rows.callWith_builtin1
def bQ:=@PyProof.Rows.callWith_type1
def hZ:=@PySem.F.excBase_ValueError
def mw:=@PySem.F.slot_list_insert
def mG:=@PySem.W.any_some
def k8:=@PySem.W.callWith_K
def nY:=@PySem.W.cellsFrom_some
def cB:=@PySem.W.kia_one
def kN:=@PySem.W.looks_clsIn
def pj:=@PySem.W.looks_findIn
def km:=@PySem.W.looks_mroIn
def ay:=@PySem.W.mg_of
def lB:=@PySem.W.tail_of_in
def cZ:=@PySem.mem_of_lookup
def ja:=@beq_iff_eq
def nK:=@PySem.codeAny_builtin
def gV:=@PySem.codeAny_call_builtin
def g6:=@PySem.codeAny_mono
def bZ:=@decide_eq_false
def mV:=@decide_eq_false_iff_not
def bH:=@decide_eq_true
def ck:=@decide_eq_true_eq
def aj:=@if_neg
def am:=@if_pos
def cz:=@of_decide_eq_true
def dZ:=@PySem.wpAny_Call_Name_kw
def lR:=@PySem.wpAny_Call_ofName
def gQ:=@PySem.wpAny_attempt
def aa:=@PySem.wpAny_bind
def fw:=@PySem.wpAny_call
def bU:=@PySem.wpAny_call_entry
def lP:=@PySem.wpAny_dictEntries
def nX:=@PySem.wpAny_dictEpoch
def mC:=@PySem.wpAny_execs_cons
def fY:=@PySem.wpAny_execs_nil
def b4:=@PySem.wpAny_field
def kh:=@PySem.wpAny_fieldsOf
def bD:=@PySem.wpAny_holding
def dQ:=@PySem.wpAny_isInstance
def fm:=@PySem.wpAny_ite_split
def jY:=@PySem.wpAny_letGo
def fF:=@PySem.wpAny_loadPart_at
def bg:=@PySem.wpAny_mono
def bX:=@PySem.wpAny_newObj_type
def kY:=@PySem.wpAny_onRaise
def fg:=@PySem.wpAny_passesOwn
def ao:=@PySem.wpAny_pure
def mD:=@PySem.wpAny_pyHash_int
def iV:=@PySem.wpAny_pyIter_list
def j1:=@PySem.wpAny_pyIter_revIter
def lZ:=@PySem.wpAny_pyIter_slot
def kR:=@PySem.wpAny_rule
def dG:=@PySem.wpAny_seqItems
def kz:=@PySem.wpAny_setEntries_of
def c8:=@PySem.wpAny_setField
def fq:=@PySem.wpAny_setField_rec
def fB:=@PySem.wpAny_setState_of
def jI:=@PySem.wpAny_specialOf
def cY:=@PySem.wpAny_standAt
def cw:=@PySem.wpAny_truthy_bool
def eX:=@PySem.wpAny_typeNameOfWhole_keyiter
def fX:=@PySem.wpAny_typeNameOf_keyiter
def jv:=@PySem.wpAny_typeOf
def j2:=@PySem.wpAny_updateSeq_pair
namespace Hd
open PySem
def top (i:Nat):Stmt:=PySem.Challenge.pw_pebbletoll_k28_answers_judged.main.body.getD i (.Pass ⟨0,0,0,0⟩)
def inC (s:Stmt) (j:Nat):Stmt:=match s with
 | .ClassDef _ _ _ b _ _ _ _ _ _ _=>b.getD j (.Pass ⟨0,0,0,0⟩)
 | _=>.Pass ⟨0,0,0,0⟩
def kA (s:Stmt):Arguments:=match s with
 | .FunctionDef _ a _ _ _ _ _ _ _ _=>a
 | _=>{ posonlyargs:=[],args:=[],vararg:=none,kwonlyargs:=[],kw_defaults:=[],kwarg:=none,defaults:=[] }
def kB (s:Stmt):List Stmt:=match s with
 | .FunctionDef _ _ b _ _ _ _ _ _ _=>b
 | _=>[]
def kS (s:Stmt):Scope:=match s with
 | .FunctionDef _ _ _ _ _ _ sc _ _ _=>sc
 | _=>{ kind:=.function,names:=[],isGenerator:=false,isCoroutine:=false }
open PySem.W PySem.Calls PyProof.Rows
def en (P:Params) (s:Str) (t:Tok) (v:Value):DictEntry:=.mk (PyData.keyHash P s) (.str s t) v
def cO (a b:Str) (t1 t2 t3:Tok) (i1 i2 i3 i4 i5:Int) (r1:Value) (b1:Bool) (i6:Int) (r2 v1 v2 v3 r3:Value) (i7 i8:Int) (t4:Tok):Obj:=.mk (.type "code") none (.fields #[.str a t1,.str b t2,.str "/claim/cut.py" t3,.int i1 0,.int i2 0,.int i3 0,.int i4 0,.int i5 0,r1,.bool b1,.int i6 0,r2,v1,v2,v3,r3,.int i7 0,.int i8 0,.str "/claim/cut.py" t4]) #[]
def fR (a b:Str) (s:Stmt):Obj:=.mk .none none (.func (.mk a b (kA s) (.stmts (kB s)) (kS s) 0 [] .none .none .none .none none .none .none 0)) #[]
def fO (a b:Str) (s:Stmt) (pm cd:Value):Obj:=.mk (.type "function") none (.func (PySem.W.fnOf a b (kA s) (kB s) (kS s) .none .none .none pm none cd .none)) #[]
def tO (xs:Array Value):Obj:=.mk (.type "tuple") none (.seq xs 0) #[]
def x0:Obj:=(tO #[])
def x1:Obj:=(.mk .none none (.fields #[]) #[])
def x2:Obj:=(cO "<module>" "<module>" 182 183 184 1 0 0 0 0 (.ref 11) false 181 (.ref 12) .none .none .none .none 185 1 186)
def x3:Obj:=(.mk (.type "frame") none .plain #[(some (.ref 13)),(some (.ref 3)),(some (.ref 3)),none,(some (.str "__main__" 164)),none,(some (.ref 0))])
noncomputable def ha (P:Params):Heap:=.mk (.mk (boot_o_0 P::boot_o_1 P::boot_o_2 P::boot_o_3 P::boot_o_4 P::boot_o_5 P::boot_o_6 P::boot_o_7 P::boot_o_8 P::boot_o_9 P::boot_o_10 P::x0::x1::x2::x3::[])) (.mk [] [] [] 0 [] [] false #[] [] 0 false false false 0 [2000,10,10] false 0 true [] [] 0 false)
noncomputable def hb (P:Params):Heap:=.mk (.mk (boot_o_0 P::boot_o_1 P::boot_o_2 P::boot_o_3 P::boot_o_4 P::boot_o_5 P::boot_o_6 P::boot_o_7 P::boot_o_8 P::boot_o_9 P::boot_o_10 P::x0::x1::x2::x3::[])) (.mk [] [] [] 0 [] [] false #[] [] 0 false false false 0 [2000,10,10] false 0 true [] [] 0 false)
abbrev st0:List Stmt:=[top 0,top 1,top 2,top 3,top 4,top 5,top 6,top 7,top 8,top 9,top 10,top 11,top 12,top 13,top 14,top 15,top 16,top 17,top 18,top 19]
abbrev st1:List Stmt:=[top 20,top 21,top 22,top 23,top 24,top 25,top 26,top 27,top 28,top 29,top 30,top 31,top 32,top 33,top 34,top 35,top 36,top 37,top 38,top 39,top 40,top 41,top 42,top 43,top 44,top 45,top 46,top 47,top 48,top 49,top 50,top 51,top 52,top 53,top 54,top 55,top 56,top 57,top 58,top 59,top 60,top 61,top 62,top 63,top 64]
abbrev bb:List Stmt:=st0++(st1++([]))
def env:Env:={ scope:=PySem.Challenge.pw_pebbletoll_k28_answers_judged.main.scope,locals:=mainNs,globals:=mainNs,cells:=[],code:=(.ref 13),frame:=some 14 }
abbrev cE:Code:=.body bb env
theorem eNa (w:World) (os:OsState):topGo treeTable PySem.Challenge.pw_pebbletoll_k28_answers_judged w 11 (some (.ref 6)) 12 (Shared.mk (boot_heap w.params) (.mk []) boot_drawn boot_toks os) (topStub PySem.Challenge.pw_pebbletoll_k28_answers_judged)=some ((Shared.mk (ha w.params) (.mk []) (.mk 0 0 0 0) 187 os),Thread.mk (denote treeTable cE) cE (.mk 0 0 0 0) [topFrame (.mk 0 0 0 0)]):=by kernel_rfl
theorem eYa (w:World) (os:OsState):segRun treeTable PySem.Challenge.pw_pebbletoll_k28_answers_judged w 11 (some (.ref 6)) 1 1 (Shared.mk (ha w.params) (.mk []) (.mk 0 0 0 0) 187 os) (blockOf bb env cE (.mk 0 0 0 0) [topFrame (.mk 0 0 0 0)])=some (.next,(Shared.mk (hb w.params) (.mk []) (.mk 0 0 0 0) 187 os),cE,(.mk 0 0 0 0)):=by kernel_rfl
def x4 (P:Params):Obj:=(.mk (.type "dict") none (.dict #[(en P "__name__" 165 (.str "pebbletoll.webs" 312)),(en P "__doc__" 166 .none),(en P "__package__" 167 .none),(en P "__loader__" 168 (.builtin "__main__.__loader__#opaque")),(en P "__spec__" 169 .none),(en P "__annotations__" 170 (.ref 6)),(en P "__builtins__" 171 (.ref 4)),(en P "__file__" 173 (.str "/claim/cut.py" 172)),(en P "__cached__" 174 .none),(en P "TollError" 206 (.ref 24)),(en P "BadWeb" 222 (.ref 37)),(en P "NoPlace" 238 (.ref 49)),(en P "NoRoad" 254 (.ref 61)),(en P "BadLaying" 270 (.ref 73)),(en P "BadWish" 286 (.ref 85)),(en P "BadStep" 311 (.ref 104)),(en P "MOST_PLACES" 315 (.int 24 314)),(en P "LEAST_TOLL" 317 (.int 2 316)),(en P "MOST_TOLL" 319 (.int 1000000 318)),(en P "Web" 347 (.ref 121)),(en P "toll" 360 (.ref 132)),(en P "neighbours" 368 (.ref 139)),(en P "check_place" 376 (.ref 146)),(en P "is_place" 384 (.ref 153)),(en P "check_counts" 392 (.ref 160)),(en P "check_ends" 400 (.ref 167)),(en P "check_tolls" 408 (.ref 174))] 27) #[])
def x5:Obj:=(.mk .none none (.fields #[(.int 2 0),(.int 0 0),(.ref 20),(.int 4 0),(.int 0 0),(.ref 33),(.int 6 0),(.int 0 0),(.ref 45),(.int 8 0),(.int 0 0),(.ref 57),(.int 10 0),(.int 0 0),(.ref 69),(.int 12 0),(.int 0 0),(.ref 81),(.int 14 0),(.int 0 0),(.ref 93),(.int 23 0),(.int 0 0),(.ref 112),(.int 34 0),(.int 0 0),(.ref 131),(.int 43 0),(.int 0 0),(.ref 138),(.int 46 0),(.int 0 0),(.ref 145),(.int 49 0),(.int 0 0),(.ref 152),(.int 51 0),(.int 0 0),(.ref 159),(.int 56 0),(.int 0 0),(.ref 166),(.int 61 0),(.int 0 0),(.ref 173)]) #[])
def x6:Obj:=(tO #[(.type "ValueError")])
def x7:Obj:=(.mk (.type "builtin_function_or_method") none (.fields #[(.builtin "type.__prepare__"),(.type "type")]) #[])
def x8 (P:Params):Obj:=(.mk (.type "dict") none (.dict #[(en P "__module__" 196 (.str "pebbletoll.errors" 187)),(en P "__qualname__" 198 (.str "TollError" 197)),(en P "__firstlineno__" 200 (.int 2 199)),(en P "__static_attributes__" 201 (.ref 22))] 4) #[])
def x9:Obj:=(cO "TollError" "TollError" 191 192 193 2 0 0 0 0 (.ref 18) false 181 (.ref 19) .none .none .none .none 194 2 195)
def x10:Obj:=(.mk (.type "frame") none .plain #[(some (.ref 20)),(some (.ref 3)),(some (.ref 17)),none,(some (.str "pebbletoll.errors" 187)),none,(some (.ref 0))])
def x11 (P:Params):Obj:=(.mk (.type "dict") none (.dict #[(en P "__module__" 196 (.str "pebbletoll.errors" 187)),(en P "__firstlineno__" 200 (.int 2 199)),(en P "__static_attributes__" 201 (.ref 22)),(en P "__weakref__" 203 (.ref 25)),(en P "__doc__" 204 .none)] 3) #[])
def x12:Obj:=(.mk (.type "type") none (.cls (.mk "TollError" [(.type "ValueError")] [(.ref 24),(.type "ValueError"),(.type "Exception"),(.type "BaseException"),(.type "object")] 23 "TollError" true [] [(.ref 37),(.ref 49),(.ref 61),(.ref 73),(.ref 85),(.ref 104)] false none false)) #[(some (.ref 15)),none,(some (.str "TollError" 189)),(some (.str "TollError" 197)),(some (.builtin "ValueError.__new__")),(some (.bool true))])
def x13:Obj:=(.mk (.type "getset_descriptor") none (.fields #[(.str "__weakref__" 202),(.ref 24),(.builtin "ExceptionGroup.__weakref__"),.none]) #[])
def x14:Obj:=(.mk (.type "super") none (.fields #[(.ref 24),(.ref 24),(.ref 24)]) #[])
def x15:Obj:=(.mk (.type "builtin_function_or_method") none (.fields #[(.builtin "object.__init_subclass__"),(.ref 24)]) #[])
def x16:Obj:=(tO #[(.ref 24)])
def x17 (P:Params):Obj:=(.mk (.type "dict") none (.dict #[(en P "__module__" 214 (.str "pebbletoll.errors" 187)),(en P "__qualname__" 216 (.str "BadWeb" 215)),(en P "__firstlineno__" 218 (.int 4 217)),(en P "__static_attributes__" 219 (.ref 35))] 4) #[])
def x18:Obj:=(cO "BadWeb" "BadWeb" 209 210 211 4 0 0 0 0 (.ref 31) false 181 (.ref 32) .none .none .none .none 212 4 213)
def x19:Obj:=(.mk (.type "frame") none .plain #[(some (.ref 33)),(some (.ref 3)),(some (.ref 30)),none,(some (.str "pebbletoll.errors" 187)),none,(some (.ref 0))])
def x20 (P:Params):Obj:=(.mk (.type "dict") none (.dict #[(en P "__module__" 214 (.str "pebbletoll.errors" 187)),(en P "__firstlineno__" 218 (.int 4 217)),(en P "__static_attributes__" 219 (.ref 35)),(en P "__doc__" 220 .none)] 2) #[])
def x21:Obj:=(.mk (.type "type") none (.cls (.mk "BadWeb" [(.ref 24)] [(.ref 37),(.ref 24),(.type "ValueError"),(.type "Exception"),(.type "BaseException"),(.type "object")] 36 "BadWeb" true [] [] false none false)) #[(some (.ref 28)),none,(some (.str "BadWeb" 207)),(some (.str "BadWeb" 215)),(some (.builtin "ValueError.__new__")),(some (.bool true))])
def x22:Obj:=(.mk (.type "super") none (.fields #[(.ref 37),(.ref 37),(.ref 37)]) #[])
def x23:Obj:=(.mk (.type "builtin_function_or_method") none (.fields #[(.builtin "object.__init_subclass__"),(.ref 37)]) #[])
def x24 (P:Params):Obj:=(.mk (.type "dict") none (.dict #[(en P "__module__" 230 (.str "pebbletoll.errors" 187)),(en P "__qualname__" 232 (.str "NoPlace" 231)),(en P "__firstlineno__" 234 (.int 6 233)),(en P "__static_attributes__" 235 (.ref 47))] 4) #[])
def x25:Obj:=(cO "NoPlace" "NoPlace" 225 226 227 6 0 0 0 0 (.ref 43) false 181 (.ref 44) .none .none .none .none 228 6 229)
def x26:Obj:=(.mk (.type "frame") none .plain #[(some (.ref 45)),(some (.ref 3)),(some (.ref 42)),none,(some (.str "pebbletoll.errors" 187)),none,(some (.ref 0))])
def x27 (P:Params):Obj:=(.mk (.type "dict") none (.dict #[(en P "__module__" 230 (.str "pebbletoll.errors" 187)),(en P "__firstlineno__" 234 (.int 6 233)),(en P "__static_attributes__" 235 (.ref 47)),(en P "__doc__" 236 .none)] 2) #[])
def x28:Obj:=(.mk (.type "type") none (.cls (.mk "NoPlace" [(.ref 24)] [(.ref 49),(.ref 24),(.type "ValueError"),(.type "Exception"),(.type "BaseException"),(.type "object")] 48 "NoPlace" true [] [] false none false)) #[(some (.ref 40)),none,(some (.str "NoPlace" 223)),(some (.str "NoPlace" 231)),(some (.builtin "ValueError.__new__")),(some (.bool true))])
def x29:Obj:=(.mk (.type "super") none (.fields #[(.ref 49),(.ref 49),(.ref 49)]) #[])
def x30:Obj:=(.mk (.type "builtin_function_or_method") none (.fields #[(.builtin "object.__init_subclass__"),(.ref 49)]) #[])
def x31 (P:Params):Obj:=(.mk (.type "dict") none (.dict #[(en P "__module__" 246 (.str "pebbletoll.errors" 187)),(en P "__qualname__" 248 (.str "NoRoad" 247)),(en P "__firstlineno__" 250 (.int 8 249)),(en P "__static_attributes__" 251 (.ref 59))] 4) #[])
def x32:Obj:=(cO "NoRoad" "NoRoad" 241 242 243 8 0 0 0 0 (.ref 55) false 181 (.ref 56) .none .none .none .none 244 8 245)
def x33:Obj:=(.mk (.type "frame") none .plain #[(some (.ref 57)),(some (.ref 3)),(some (.ref 54)),none,(some (.str "pebbletoll.errors" 187)),none,(some (.ref 0))])
def x34 (P:Params):Obj:=(.mk (.type "dict") none (.dict #[(en P "__module__" 246 (.str "pebbletoll.errors" 187)),(en P "__firstlineno__" 250 (.int 8 249)),(en P "__static_attributes__" 251 (.ref 59)),(en P "__doc__" 252 .none)] 2) #[])
def x35:Obj:=(.mk (.type "type") none (.cls (.mk "NoRoad" [(.ref 24)] [(.ref 61),(.ref 24),(.type "ValueError"),(.type "Exception"),(.type "BaseException"),(.type "object")] 60 "NoRoad" true [] [] false none false)) #[(some (.ref 52)),none,(some (.str "NoRoad" 239)),(some (.str "NoRoad" 247)),(some (.builtin "ValueError.__new__")),(some (.bool true))])
def x36:Obj:=(.mk (.type "super") none (.fields #[(.ref 61),(.ref 61),(.ref 61)]) #[])
def x37:Obj:=(.mk (.type "builtin_function_or_method") none (.fields #[(.builtin "object.__init_subclass__"),(.ref 61)]) #[])
def x38 (P:Params):Obj:=(.mk (.type "dict") none (.dict #[(en P "__module__" 262 (.str "pebbletoll.errors" 187)),(en P "__qualname__" 264 (.str "BadLaying" 263)),(en P "__firstlineno__" 266 (.int 10 265)),(en P "__static_attributes__" 267 (.ref 71))] 4) #[])
def x39:Obj:=(cO "BadLaying" "BadLaying" 257 258 259 10 0 0 0 0 (.ref 67) false 181 (.ref 68) .none .none .none .none 260 10 261)
def x40:Obj:=(.mk (.type "frame") none .plain #[(some (.ref 69)),(some (.ref 3)),(some (.ref 66)),none,(some (.str "pebbletoll.errors" 187)),none,(some (.ref 0))])
def x41 (P:Params):Obj:=(.mk (.type "dict") none (.dict #[(en P "__module__" 262 (.str "pebbletoll.errors" 187)),(en P "__firstlineno__" 266 (.int 10 265)),(en P "__static_attributes__" 267 (.ref 71)),(en P "__doc__" 268 .none)] 2) #[])
def x42:Obj:=(.mk (.type "type") none (.cls (.mk "BadLaying" [(.ref 24)] [(.ref 73),(.ref 24),(.type "ValueError"),(.type "Exception"),(.type "BaseException"),(.type "object")] 72 "BadLaying" true [] [] false none false)) #[(some (.ref 64)),none,(some (.str "BadLaying" 255)),(some (.str "BadLaying" 263)),(some (.builtin "ValueError.__new__")),(some (.bool true))])
def x43:Obj:=(.mk (.type "super") none (.fields #[(.ref 73),(.ref 73),(.ref 73)]) #[])
def x44:Obj:=(.mk (.type "builtin_function_or_method") none (.fields #[(.builtin "object.__init_subclass__"),(.ref 73)]) #[])
def x45 (P:Params):Obj:=(.mk (.type "dict") none (.dict #[(en P "__module__" 278 (.str "pebbletoll.errors" 187)),(en P "__qualname__" 280 (.str "BadWish" 279)),(en P "__firstlineno__" 282 (.int 12 281)),(en P "__static_attributes__" 283 (.ref 83))] 4) #[])
def x46:Obj:=(cO "BadWish" "BadWish" 273 274 275 12 0 0 0 0 (.ref 79) false 181 (.ref 80) .none .none .none .none 276 12 277)
def x47:Obj:=(.mk (.type "frame") none .plain #[(some (.ref 81)),(some (.ref 3)),(some (.ref 78)),none,(some (.str "pebbletoll.errors" 187)),none,(some (.ref 0))])
def x48 (P:Params):Obj:=(.mk (.type "dict") none (.dict #[(en P "__module__" 278 (.str "pebbletoll.errors" 187)),(en P "__firstlineno__" 282 (.int 12 281)),(en P "__static_attributes__" 283 (.ref 83)),(en P "__doc__" 284 .none)] 2) #[])
def x49:Obj:=(.mk (.type "type") none (.cls (.mk "BadWish" [(.ref 24)] [(.ref 85),(.ref 24),(.type "ValueError"),(.type "Exception"),(.type "BaseException"),(.type "object")] 84 "BadWish" true [] [] false none false)) #[(some (.ref 76)),none,(some (.str "BadWish" 271)),(some (.str "BadWish" 279)),(some (.builtin "ValueError.__new__")),(some (.bool true))])
def x50:Obj:=(.mk (.type "super") none (.fields #[(.ref 85),(.ref 85),(.ref 85)]) #[])
def x51:Obj:=(.mk (.type "builtin_function_or_method") none (.fields #[(.builtin "object.__init_subclass__"),(.ref 85)]) #[])
def x52 (P:Params):Obj:=(.mk (.type "dict") none (.dict #[(en P "__module__" 294 (.str "pebbletoll.errors" 187)),(en P "__qualname__" 296 (.str "BadStep" 295)),(en P "__firstlineno__" 298 (.int 14 297)),(en P "__init__" 306 (.ref 101)),(en P "__static_attributes__" 308 (.ref 102))] 5) #[])
def x53:Obj:=(.mk .none none (.fields #[(.int 16 0),(.int 4 0),(.ref 100)]) #[])
def x54:Obj:=(cO "BadStep" "BadStep" 289 290 291 14 0 0 0 0 (.ref 91) false 181 (.ref 92) .none .none .none .none 292 14 293)
def x55:Obj:=(.mk (.type "frame") none .plain #[(some (.ref 93)),(some (.ref 3)),(some (.ref 90)),none,(some (.str "pebbletoll.errors" 187)),none,(some (.ref 0))])
def x56:Obj:=(tO #[(.str "self" 302),(.str "at" 303)])
def x57:Obj:=(fR "__init__" "BadStep.__init__" (inC (top 7) 0))
def x58:Obj:=(cO "__init__" "BadStep.__init__" 299 300 301 16 2 0 0 3 (.ref 95) true 181 (.ref 96) .none (.ref 97) (.ref 98) (.ref 99) 304 16 305)
def x59:Obj:=(fO "__init__" "BadStep.__init__" (inC (top 7) 0) (.str "pebbletoll.errors" 187) (.ref 100))
def x60:Obj:=(tO #[(.str "at" 307)])
def x61 (P:Params):Obj:=(.mk (.type "dict") none (.dict #[(en P "__module__" 294 (.str "pebbletoll.errors" 187)),(en P "__firstlineno__" 298 (.int 14 297)),(en P "__init__" 306 (.ref 101)),(en P "__static_attributes__" 308 (.ref 102)),(en P "__doc__" 309 .none)] 2) #[])
def x62:Obj:=(.mk (.type "type") none (.cls (.mk "BadStep" [(.ref 24)] [(.ref 104),(.ref 24),(.type "ValueError"),(.type "Exception"),(.type "BaseException"),(.type "object")] 103 "BadStep" true [] [] false none false)) #[(some (.ref 88)),none,(some (.str "BadStep" 287)),(some (.str "BadStep" 295)),(some (.builtin "ValueError.__new__")),(some (.bool true))])
def x63:Obj:=(.mk (.type "super") none (.fields #[(.ref 104),(.ref 104),(.ref 104)]) #[])
def x64:Obj:=(.mk (.type "builtin_function_or_method") none (.fields #[(.builtin "object.__init_subclass__"),(.ref 104)]) #[])
def x65 (P:Params):Obj:=(.mk (.type "dict") none (.dict #[(en P "__module__" 327 (.str "pebbletoll.webs" 312)),(en P "__qualname__" 329 (.str "Web" 328)),(en P "__firstlineno__" 331 (.int 23 330)),(en P "__init__" 337 (.ref 118)),(en P "__static_attributes__" 340 (.ref 119))] 5) #[])
def x66:Obj:=(.mk .none none (.fields #[(.int 25 0),(.int 4 0),(.ref 117)]) #[])
def x67:Obj:=(cO "Web" "Web" 322 323 324 23 0 0 0 0 (.ref 110) false 181 (.ref 111) .none .none .none .none 325 23 326)
def x68:Obj:=(.mk (.type "frame") none .plain #[(some (.ref 112)),(some (.ref 3)),(some (.ref 109)),none,(some (.str "pebbletoll.webs" 312)),none,(some (.ref 0))])
def x69:Obj:=(fR "__init__" "Web.__init__" (inC (top 12) 0))
def x70:Obj:=(cO "__init__" "Web.__init__" 332 333 334 25 3 0 0 3 (.ref 114) true 181 (.ref 115) .none .none .none (.ref 116) 335 25 336)
def x71:Obj:=(fO "__init__" "Web.__init__" (inC (top 12) 0) (.str "pebbletoll.webs" 312) (.ref 117))
def x72:Obj:=(tO #[(.str "many" 338),(.str "roads" 339)])
def x73 (P:Params):Obj:=(.mk (.type "dict") none (.dict #[(en P "__module__" 327 (.str "pebbletoll.webs" 312)),(en P "__firstlineno__" 331 (.int 23 330)),(en P "__init__" 337 (.ref 118)),(en P "__static_attributes__" 340 (.ref 119)),(en P "__dict__" 342 (.ref 122)),(en P "__weakref__" 344 (.ref 123)),(en P "__doc__" 345 .none)] 4) #[])
def x74:Obj:=(.mk (.type "type") none (.cls (.mk "Web" [(.type "object")] [(.ref 121),(.type "object")] 120 "Web" true [] [] false none false)) #[none,none,(some (.str "Web" 320)),(some (.str "Web" 328)),(some (.builtin "object.__new__")),(some (.bool true))])
def x75:Obj:=(.mk (.type "getset_descriptor") none (.fields #[(.str "__dict__" 341),(.ref 121),(.builtin "function.__dict__"),(.builtin "function.__dict__#set")]) #[])
def x76:Obj:=(.mk (.type "getset_descriptor") none (.fields #[(.str "__weakref__" 343),(.ref 121),(.builtin "ExceptionGroup.__weakref__"),.none]) #[])
def x77:Obj:=(.mk (.type "super") none (.fields #[(.ref 121),(.ref 121),(.ref 121)]) #[])
def x78:Obj:=(.mk (.type "builtin_function_or_method") none (.fields #[(.builtin "object.__init_subclass__"),(.ref 121)]) #[])
def x79:Obj:=(tO #[(.str "web" 351),(.str "a" 352),(.str "b" 353),(.str "one" 354),(.str "other" 355),(.str "there" 356),(.str "back" 357)])
def x80:Obj:=(fR "toll" "toll" (top 13))
def x81:Obj:=(cO "toll" "toll" 348 349 350 34 3 0 0 3 (.ref 126) true 181 (.ref 127) .none (.ref 128) (.ref 129) (.ref 130) 358 34 359)
def x82:Obj:=(fO "toll" "toll" (top 13) (.str "pebbletoll.webs" 312) (.ref 131))
def x83:Obj:=(tO #[(.str "web" 364),(.str "a" 365)])
def x84:Obj:=(fR "neighbours" "neighbours" (top 14))
def x85:Obj:=(cO "neighbours" "neighbours" 361 362 363 43 2 0 0 3 (.ref 133) true 181 (.ref 134) .none (.ref 135) (.ref 136) (.ref 137) 366 43 367)
def x86:Obj:=(fO "neighbours" "neighbours" (top 14) (.str "pebbletoll.webs" 312) (.ref 138))
def x87:Obj:=(tO #[(.str "web" 372),(.str "number" 373)])
def x88:Obj:=(fR "check_place" "check_place" (top 15))
def x89:Obj:=(cO "check_place" "check_place" 369 370 371 46 2 0 0 3 (.ref 140) true 181 (.ref 141) .none (.ref 142) (.ref 143) (.ref 144) 374 46 375)
def x90:Obj:=(fO "check_place" "check_place" (top 15) (.str "pebbletoll.webs" 312) (.ref 145))
def x91:Obj:=(tO #[(.str "many" 380),(.str "number" 381)])
def x92:Obj:=(fR "is_place" "is_place" (top 16))
def x93:Obj:=(cO "is_place" "is_place" 377 378 379 49 2 0 0 3 (.ref 147) true 181 (.ref 148) .none (.ref 149) (.ref 150) (.ref 151) 382 49 383)
def x94:Obj:=(fO "is_place" "is_place" (top 16) (.str "pebbletoll.webs" 312) (.ref 152))
def x95:Obj:=(tO #[(.str "many" 388),(.str "roads" 389)])
def x96:Obj:=(fR "check_counts" "check_counts" (top 17))
def x97:Obj:=(cO "check_counts" "check_counts" 385 386 387 51 2 0 0 3 (.ref 154) true 181 (.ref 155) .none (.ref 156) (.ref 157) (.ref 158) 390 51 391)
def x98:Obj:=(fO "check_counts" "check_counts" (top 17) (.str "pebbletoll.webs" 312) (.ref 159))
def x99:Obj:=(tO #[(.str "many" 396),(.str "road" 397)])
def aIa:Obj:=(fR "check_ends" "check_ends" (top 18))
def Uv:Obj:=(cO "check_ends" "check_ends" 393 394 395 56 2 0 0 3 (.ref 161) true 181 (.ref 162) .none (.ref 163) (.ref 164) (.ref 165) 398 56 399)
def Vm:Obj:=(fO "check_ends" "check_ends" (top 18) (.str "pebbletoll.webs" 312) (.ref 166))
def UF:Obj:=(tO #[(.str "road" 404),(.str "number" 405)])
def YE:Obj:=(fR "check_tolls" "check_tolls" (top 19))
def UM:Obj:=(cO "check_tolls" "check_tolls" 401 402 403 61 1 0 0 3 (.ref 168) true 181 (.ref 169) .none (.ref 170) (.ref 171) (.ref 172) 406 61 407)
def Vp:Obj:=(fO "check_tolls" "check_tolls" (top 19) (.str "pebbletoll.webs" 312) (.ref 173))
noncomputable def h0 (P:Params):Heap:=.mk (.mk (boot_o_0 P::boot_o_1 P::boot_o_2 P::x4 P::boot_o_4 P::boot_o_5 P::boot_o_6 P::boot_o_7 P::boot_o_8 P::boot_o_9 P::boot_o_10 P::x0::x5::x2::x3::x6::x7::x8 P::x0::x1::x9::x10::x0::x11 P::x12::x13::x14::x15::x16::x7::x17 P::x0::x1::x18::x19::x0::x20 P::x21::x22::x23::x16::x7::x24 P::x0::x1::x25::x26::x0::x27 P::x28::x29::x30::x16::x7::x31 P::x0::x1::x32::x33::x0::x34 P::x35::x36::x37::x16::x7::x38 P::x0::x1::x39::x40::x0::x41 P::x42::x43::x44::x16::x7::x45 P::x0::x1::x46::x47::x0::x48 P::x49::x50::x51::x16::x7::x52 P::x0::x53::x54::x55::x0::x1::x56::x0::x57::x58::x59::x60::x61 P::x62::x63::x64::x0::x7::x65 P::x0::x66::x67::x68::x0::x1::x69::x70::x71::x72::x73 P::x74::x75::x76::x77::x78::x0::x1::x79::x0::x80::x81::x82::x0::x1::x83::x0::x84::x85::x86::x0::x1::x87::x0::x88::x89::x90::x0::x1::x91::x0::x92::x93::x94::x0::x1::x95::x0::x96::x97::x98::x0::x1::x99::x0::aIa::Uv::Vm::x0::x1::UF::x0::YE::UM::Vp::[])) (.mk [] [] [] 0 [] [] false #[] [] 0 false false false 0 [2000,10,10] false 0 true [] [] 0 false)
theorem eWa (w:World) (os:OsState):segRun treeTable PySem.Challenge.pw_pebbletoll_k28_answers_judged w 11 (some (.ref 6)) 1 1976 (Shared.mk (hb w.params) (.mk []) (.mk 0 0 0 0) 187 os) (piecesOf st0 env cE (.mk 0 0 0 0) [topFrame (.mk 0 0 0 0)])=some (.next,(Shared.mk (h0 w.params) (.mk []) (.mk 0 0 0 0) 409 os),cE,(.mk 61 0 64 55)):=by kernel_rfl
def aYa (P:Params):Obj:=(.mk (.type "dict") none (.dict #[(en P "__name__" 165 (.str "law_pebbletoll_k28_answers_judged" 624)),(en P "__doc__" 166 .none),(en P "__package__" 167 .none),(en P "__loader__" 168 (.builtin "__main__.__loader__#opaque")),(en P "__spec__" 169 .none),(en P "__annotations__" 170 (.ref 6)),(en P "__builtins__" 171 (.ref 4)),(en P "__file__" 173 (.str "/claim/cut.py" 172)),(en P "__cached__" 174 .none),(en P "TollError" 206 (.ref 24)),(en P "BadWeb" 222 (.ref 37)),(en P "NoPlace" 238 (.ref 49)),(en P "NoRoad" 254 (.ref 61)),(en P "BadLaying" 270 (.ref 73)),(en P "BadWish" 286 (.ref 85)),(en P "BadStep" 311 (.ref 104)),(en P "MOST_PLACES" 315 (.int 24 314)),(en P "LEAST_TOLL" 317 (.int 2 316)),(en P "MOST_TOLL" 319 (.int 1000000 318)),(en P "Web" 347 (.ref 121)),(en P "toll" 360 (.ref 132)),(en P "neighbours" 368 (.ref 139)),(en P "check_place" 376 (.ref 146)),(en P "is_place" 384 (.ref 153)),(en P "check_counts" 392 (.ref 160)),(en P "check_ends" 400 (.ref 167)),(en P "check_tolls" 408 (.ref 174)),(en P "check_joined" 420 (.ref 181)),(en P "other_ends" 430 (.ref 188)),(en P "laying_of" 440 (.ref 195)),(en P "is_filled" 446 (.ref 200)),(en P "covers" 452 (.ref 205)),(en P "walked" 463 (.ref 212)),(en P "layings" 475 (.ref 219)),(en P "can_be_done" 484 (.ref 226)),(en P "is_step" 492 (.ref 233)),(en P "taken" 500 (.ref 240)),(en P "behind" 510 (.ref 247)),(en P "ahead" 525 (.ref 254)),(en P "down" 538 (.ref 261)),(en P "kids" 544 (.ref 266)),(en P "inward" 550 (.ref 271)),(en P "wish_of" 560 (.ref 278)),(en P "standings" 566 (.ref 283)),(en P "handed_on" 576 (.ref 290)),(en P "standing" 586 (.ref 297)),(en P "is_met" 595 (.ref 304)),(en P "lacks_of" 601 (.ref 309)),(en P "judged" 612 (.ref 316)),(en P "lead_to" 623 (.ref 323)),(en P "_law_drawn" 636 (.ref 330)),(en P "_law_toll" 643 (.ref 337)),(en P "_law_roads" 658 (.ref 344)),(en P "_law_tolls" 670 (.ref 351)),(en P "_law_down" 684 (.ref 358)),(en P "_law_standings" 690 (.ref 363)),(en P "_law_bound" 698 (.ref 370)),(en P "_law_laying" 710 (.ref 377)),(en P "_law_wish" 722 (.ref 384)),(en P "_law_edge" 736 (.ref 391)),(en P "_law_done" 749 (.ref 398)),(en P "_law_covers" 755 (.ref 403)),(en P "_law_steps" 771 (.ref 410)),(en P "_law_step_spoilt" 784 (.ref 417)),(en P "_law_steps_else" 797 (.ref 424)),(en P "_law_lacks_else" 808 (.ref 431)),(en P "law" 814 (.ref 436))] 67) #[])
def dsa:Obj:=(.mk .none none (.fields #[(.int 2 0),(.int 0 0),(.ref 20),(.int 4 0),(.int 0 0),(.ref 33),(.int 6 0),(.int 0 0),(.ref 45),(.int 8 0),(.int 0 0),(.ref 57),(.int 10 0),(.int 0 0),(.ref 69),(.int 12 0),(.int 0 0),(.ref 81),(.int 14 0),(.int 0 0),(.ref 93),(.int 23 0),(.int 0 0),(.ref 112),(.int 34 0),(.int 0 0),(.ref 131),(.int 43 0),(.int 0 0),(.ref 138),(.int 46 0),(.int 0 0),(.ref 145),(.int 49 0),(.int 0 0),(.ref 152),(.int 51 0),(.int 0 0),(.ref 159),(.int 56 0),(.int 0 0),(.ref 166),(.int 61 0),(.int 0 0),(.ref 173),(.int 65 0),(.int 0 0),(.ref 180),(.int 76 0),(.int 0 0),(.ref 187),(.int 85 0),(.int 0 0),(.ref 194),(.int 89 0),(.int 0 0),(.ref 199),(.int 91 0),(.int 0 0),(.ref 204),(.int 94 0),(.int 0 0),(.ref 211),(.int 96 0),(.int 0 0),(.ref 218),(.int 103 0),(.int 0 0),(.ref 225),(.int 105 0),(.int 0 0),(.ref 232),(.int 107 0),(.int 0 0),(.ref 239),(.int 109 0),(.int 0 0),(.ref 246),(.int 115 0),(.int 0 0),(.ref 253),(.int 126 0),(.int 0 0),(.ref 260),(.int 136 0),(.int 0 0),(.ref 265),(.int 138 0),(.int 0 0),(.ref 270),(.int 142 0),(.int 0 0),(.ref 277),(.int 146 0),(.int 0 0),(.ref 282),(.int 153 0),(.int 0 0),(.ref 289),(.int 157 0),(.int 0 0),(.ref 296),(.int 159 0),(.int 0 0),(.ref 303),(.int 161 0),(.int 0 0),(.ref 308),(.int 163 0),(.int 0 0),(.ref 315),(.int 168 0),(.int 0 0),(.ref 322),(.int 175 0),(.int 0 0),(.ref 329),(.int 184 0),(.int 0 0),(.ref 336),(.int 188 0),(.int 0 0),(.ref 343),(.int 203 0),(.int 0 0),(.ref 350),(.int 209 0),(.int 0 0),(.ref 357),(.int 219 0),(.int 0 0),(.ref 362),(.int 227 0),(.int 0 0),(.ref 369),(.int 230 0),(.int 0 0),(.ref 376),(.int 237 0),(.int 0 0),(.ref 383),(.int 244 0),(.int 0 0),(.ref 390),(.int 252 0),(.int 0 0),(.ref 397),(.int 260 0),(.int 0 0),(.ref 402),(.int 262 0),(.int 0 0),(.ref 409),(.int 273 0),(.int 0 0),(.ref 416),(.int 278 0),(.int 0 0),(.ref 423),(.int 290 0),(.int 0 0),(.ref 430),(.int 296 0),(.int 0 0),(.ref 435)]) #[])
def ZZ:Obj:=(tO #[(.str "many" 412),(.str "roads" 413),(.str "reached" 414),(.str "waiting" 415),(.str "place" 416),(.str "end" 417)])
def dka:Obj:=(fR "check_joined" "check_joined" (top 20))
def aFa:Obj:=(cO "check_joined" "check_joined" 409 410 411 65 2 0 0 3 (.ref 175) true 181 (.ref 176) .none (.ref 177) (.ref 178) (.ref 179) 418 65 419)
def Zz:Obj:=(fO "check_joined" "check_joined" (top 20) (.str "pebbletoll.webs" 312) (.ref 180))
def ana:Obj:=(tO #[(.str "roads" 424),(.str "place" 425),(.str "ends" 426),(.str "road" 427)])
def dRa:Obj:=(fR "other_ends" "other_ends" (top 21))
def aSa:Obj:=(cO "other_ends" "other_ends" 421 422 423 76 2 0 0 3 (.ref 182) true 181 (.ref 183) .none (.ref 184) (.ref 185) (.ref 186) 428 76 429)
def aBa:Obj:=(fO "other_ends" "other_ends" (top 21) (.str "pebbletoll.webs" 312) (.ref 187))
def ata:Obj:=(tO #[(.str "web" 436),(.str "numbers" 437)])
def dHa:Obj:=(fR "laying_of" "laying_of" (top 23))
def YZ:Obj:=(cO "laying_of" "laying_of" 433 434 435 85 2 0 0 3 (.ref 189) true 181 (.ref 190) .none (.ref 191) (.ref 192) (.ref 193) 438 85 439)
def ava:Obj:=(fO "laying_of" "laying_of" (top 23) (.str "pebbletoll.layings" 431) (.ref 194))
def c2a:Obj:=(fR "is_filled" "is_filled" (top 24))
def Yx:Obj:=(cO "is_filled" "is_filled" 441 442 443 89 2 0 0 3 (.ref 196) true 181 (.ref 197) .none .none .none (.ref 198) 444 89 445)
def Z4:Obj:=(fO "is_filled" "is_filled" (top 24) (.str "pebbletoll.layings" 431) (.ref 199))
def dha:Obj:=(fR "covers" "covers" (top 25))
def Zp:Obj:=(cO "covers" "covers" 447 448 449 91 2 0 0 3 (.ref 201) true 181 (.ref 202) .none .none .none (.ref 203) 450 91 451)
def aaa:Obj:=(fO "covers" "covers" (top 25) (.str "pebbletoll.layings" 431) (.ref 204))
def aua:Obj:=(tO #[(.str "web" 458),(.str "laying" 459),(.str "steps" 460)])
def dIa:Obj:=(fR "walked" "walked" (top 27))
def baa:Obj:=(cO "walked" "walked" 455 456 457 94 3 0 0 3 (.ref 206) true 181 (.ref 207) .none (.ref 208) (.ref 209) (.ref 210) 461 94 462)
def ara:Obj:=(fO "walked" "walked" (top 27) (.str "pebbletoll.steps" 453) (.ref 211))
def YC:Obj:=(tO #[(.str "web" 467),(.str "laying" 468),(.str "steps" 469),(.str "passed" 470),(.str "at" 471),(.str "step" 472)])
def dua:Obj:=(fR "layings" "layings" (top 28))
def Zm:Obj:=(cO "layings" "layings" 464 465 466 96 3 0 0 3 (.ref 213) true 181 (.ref 214) .none (.ref 215) (.ref 216) (.ref 217) 473 96 474)
def YI:Obj:=(fO "layings" "layings" (top 28) (.str "pebbletoll.steps" 453) (.ref 218))
def aya:Obj:=(tO #[(.str "web" 479),(.str "laying" 480),(.str "step" 481)])
def d7a:Obj:=(fR "can_be_done" "can_be_done" (top 29))
def Ys:Obj:=(cO "can_be_done" "can_be_done" 476 477 478 103 3 0 0 3 (.ref 220) true 181 (.ref 221) .none (.ref 222) (.ref 223) (.ref 224) 482 103 483)
def bba:Obj:=(fO "can_be_done" "can_be_done" (top 29) (.str "pebbletoll.steps" 453) (.ref 225))
def ZO:Obj:=(tO #[(.str "web" 488),(.str "step" 489)])
def c6a:Obj:=(fR "is_step" "is_step" (top 30))
def apa:Obj:=(cO "is_step" "is_step" 485 486 487 105 2 0 0 3 (.ref 227) true 181 (.ref 228) .none (.ref 229) (.ref 230) (.ref 231) 490 105 491)
def aba:Obj:=(fO "is_step" "is_step" (top 30) (.str "pebbletoll.steps" 453) (.ref 232))
def aUa:Obj:=(tO #[(.str "web" 496),(.str "step" 497)])
def dda:Obj:=(fR "taken" "taken" (top 31))
def aza:Obj:=(cO "taken" "taken" 493 494 495 107 2 0 0 3 (.ref 234) true 181 (.ref 235) .none (.ref 236) (.ref 237) (.ref 238) 498 107 499)
def aqa:Obj:=(fO "taken" "taken" (top 31) (.str "pebbletoll.steps" 453) (.ref 239))
def ama:Obj:=(tO #[(.str "web" 504),(.str "laying" 505),(.str "step" 506),(.str "counts" 507)])
def dGa:Obj:=(fR "behind" "behind" (top 32))
def Zi:Obj:=(cO "behind" "behind" 501 502 503 109 3 0 0 3 (.ref 241) true 181 (.ref 242) .none (.ref 243) (.ref 244) (.ref 245) 508 109 509)
def Z9:Obj:=(fO "behind" "behind" (top 32) (.str "pebbletoll.steps" 453) (.ref 246))
def ZI:Obj:=(tO #[(.str "web" 516),(.str "r" 517),(.str "nearer" 518),(.str "waiting" 519),(.str "place" 520),(.str "front" 521),(.str "kid" 522)])
def dDa:Obj:=(fR "ahead" "ahead" (top 34))
def Y7:Obj:=(cO "ahead" "ahead" 513 514 515 115 2 0 0 3 (.ref 248) true 181 (.ref 249) .none (.ref 250) (.ref 251) (.ref 252) 523 115 524)
def X7:Obj:=(fO "ahead" "ahead" (top 34) (.str "pebbletoll.ways" 511) (.ref 253))
def YN:Obj:=(tO #[(.str "web" 529),(.str "r" 530),(.str "nearer" 531),(.str "places" 532),(.str "waiting" 533),(.str "place" 534),(.str "kid" 535)])
def dia:Obj:=(fR "down" "down" (top 35))
def ZC:Obj:=(cO "down" "down" 526 527 528 126 2 0 0 3 (.ref 255) true 181 (.ref 256) .none (.ref 257) (.ref 258) (.ref 259) 536 126 537)
def a4a:Obj:=(fO "down" "down" (top 35) (.str "pebbletoll.ways" 511) (.ref 260))
def eja:Obj:=(fR "kids" "kids" (top 36))
def YG:Obj:=(cO "kids" "kids" 539 540 541 136 3 0 0 3 (.ref 262) true 181 (.ref 263) .none .none .none (.ref 264) 542 136 543)
def Z2:Obj:=(fO "kids" "kids" (top 36) (.str "pebbletoll.ways" 511) (.ref 265))
def eia:Obj:=(fR "inward" "inward" (top 37))
def bwa:Obj:=(cO "inward" "inward" 545 546 547 138 2 0 0 3 (.ref 267) true 181 (.ref 268) .none .none .none (.ref 269) 548 138 549)
def Zw:Obj:=(fO "inward" "inward" (top 37) (.str "pebbletoll.ways" 511) (.ref 270))
def bva:Obj:=(tO #[(.str "web" 556),(.str "numbers" 557)])
def dca:Obj:=(fR "wish_of" "wish_of" (top 39))
def Zb:Obj:=(cO "wish_of" "wish_of" 553 554 555 142 2 0 0 3 (.ref 272) true 181 (.ref 273) .none (.ref 274) (.ref 275) (.ref 276) 558 142 559)
def bha:Obj:=(fO "wish_of" "wish_of" (top 39) (.str "pebbletoll.wishes" 551) (.ref 277))
def dJa:Obj:=(fR "standings" "standings" (top 40))
def Zq:Obj:=(cO "standings" "standings" 561 562 563 146 4 0 0 3 (.ref 279) true 181 (.ref 280) .none .none .none (.ref 281) 564 146 565)
def Z7:Obj:=(fO "standings" "standings" (top 40) (.str "pebbletoll.wishes" 551) (.ref 282))
def Zs:Obj:=(tO #[(.str "web" 570),(.str "over" 571),(.str "place" 572),(.str "front" 573)])
def eka:Obj:=(fR "handed_on" "handed_on" (top 41))
def ZA:Obj:=(cO "handed_on" "handed_on" 567 568 569 153 4 0 0 3 (.ref 284) true 181 (.ref 285) .none (.ref 286) (.ref 287) (.ref 288) 574 153 575)
def Zx:Obj:=(fO "handed_on" "handed_on" (top 41) (.str "pebbletoll.wishes" 551) (.ref 289))
def ZE:Obj:=(tO #[(.str "web" 580),(.str "laying" 581),(.str "wish" 582),(.str "r" 583)])
def dba:Obj:=(fR "standing" "standing" (top 42))
def ZW:Obj:=(cO "standing" "standing" 577 578 579 157 4 0 0 3 (.ref 291) true 181 (.ref 292) .none (.ref 293) (.ref 294) (.ref 295) 584 157 585)
def Z0:Obj:=(fO "standing" "standing" (top 42) (.str "pebbletoll.wishes" 551) (.ref 296))
def bra:Obj:=(tO #[(.str "web" 590),(.str "laying" 591),(.str "wish" 592)])
def eaa:Obj:=(fR "is_met" "is_met" (top 43))
def ZK:Obj:=(cO "is_met" "is_met" 587 588 589 159 3 0 0 3 (.ref 298) true 181 (.ref 299) .none (.ref 300) (.ref 301) (.ref 302) 593 159 594)
def Yz:Obj:=(fO "is_met" "is_met" (top 43) (.str "pebbletoll.wishes" 551) (.ref 303))
def dUa:Obj:=(fR "lacks_of" "lacks_of" (top 44))
def aOa:Obj:=(cO "lacks_of" "lacks_of" 596 597 598 161 3 0 0 3 (.ref 305) true 181 (.ref 306) .none .none .none (.ref 307) 599 161 600)
def Yd:Obj:=(fO "lacks_of" "lacks_of" (top 44) (.str "pebbletoll.wishes" 551) (.ref 308))
def a6a:Obj:=(tO #[(.str "web" 605),(.str "laying" 606),(.str "wish" 607),(.str "answer" 608),(.str "met" 609)])
def c3a:Obj:=(fR "judged" "judged" (top 45))
def Yn:Obj:=(cO "judged" "judged" 602 603 604 163 4 0 0 3 (.ref 310) true 181 (.ref 311) .none (.ref 312) (.ref 313) (.ref 314) 610 163 611)
def Yw:Obj:=(fO "judged" "judged" (top 45) (.str "pebbletoll.wishes" 551) (.ref 315))
def YT:Obj:=(tO #[(.str "web" 616),(.str "laying" 617),(.str "wish" 618),(.str "steps" 619),(.str "left" 620)])
def dxa:Obj:=(fR "lead_to" "lead_to" (top 46))
def aDa:Obj:=(cO "lead_to" "lead_to" 613 614 615 168 4 0 0 3 (.ref 317) true 181 (.ref 318) .none (.ref 319) (.ref 320) (.ref 321) 621 168 622)
def a1a:Obj:=(fO "lead_to" "lead_to" (top 46) (.str "pebbletoll.wishes" 551) (.ref 322))
def Zo:Obj:=(tO #[(.str "script" 629),(.str "k" 630),(.str "cell" 631),(.str "near" 632),(.str "far" 633)])
def c1a:Obj:=(fR "_law_drawn" "_law_drawn" (top 48))
def aHa:Obj:=(cO "_law_drawn" "_law_drawn" 626 627 628 175 2 0 0 3 (.ref 324) true 181 (.ref 325) .none (.ref 326) (.ref 327) (.ref 328) 634 175 635)
def YO:Obj:=(fO "_law_drawn" "_law_drawn" (top 48) (.str "law_pebbletoll_k28_answers_judged" 624) (.ref 329))
def bea:Obj:=(tO #[(.str "part" 640)])
def d5a:Obj:=(fR "_law_toll" "_law_toll" (top 49))
def ZH:Obj:=(cO "_law_toll" "_law_toll" 637 638 639 184 1 0 0 3 (.ref 331) true 181 (.ref 332) .none (.ref 333) (.ref 334) (.ref 335) 641 184 642)
def X8:Obj:=(fO "_law_toll" "_law_toll" (top 49) (.str "law_pebbletoll_k28_answers_judged" 624) (.ref 336))
def bga:Obj:=(tO #[(.str "script" 647),(.str "many" 648),(.str "shape" 649),(.str "roads" 650),(.str "k" 651),(.str "part" 652),(.str "to" 653),(.str "there" 654),(.str "back" 655)])
def ela:Obj:=(fR "_law_roads" "_law_roads" (top 50))
def Zy:Obj:=(cO "_law_roads" "_law_roads" 644 645 646 188 3 0 0 3 (.ref 338) true 181 (.ref 339) .none (.ref 340) (.ref 341) (.ref 342) 656 188 657)
def bia:Obj:=(fO "_law_roads" "_law_roads" (top 50) (.str "law_pebbletoll_k28_answers_judged" 624) (.ref 343))
def Z8:Obj:=(tO #[(.str "roads" 662),(.str "tolls" 663),(.str "one" 664),(.str "other" 665),(.str "there" 666),(.str "back" 667)])
def dPa:Obj:=(fR "_law_tolls" "_law_tolls" (top 51))
def YA:Obj:=(cO "_law_tolls" "_law_tolls" 659 660 661 203 1 0 0 3 (.ref 345) true 181 (.ref 346) .none (.ref 347) (.ref 348) (.ref 349) 668 203 669)
def aMa:Obj:=(fO "_law_tolls" "_law_tolls" (top 51) (.str "law_pebbletoll_k28_answers_judged" 624) (.ref 350))
def bta:Obj:=(tO #[(.str "tolls" 674),(.str "many" 675),(.str "r" 676),(.str "order" 677),(.str "at" 678),(.str "place" 679),(.str "above" 680),(.str "kid" 681)])
def epa:Obj:=(fR "_law_down" "_law_down" (top 52))
def Z3:Obj:=(cO "_law_down" "_law_down" 671 672 673 209 3 0 0 3 (.ref 352) true 181 (.ref 353) .none (.ref 354) (.ref 355) (.ref 356) 682 209 683)
def Yp:Obj:=(fO "_law_down" "_law_down" (top 52) (.str "law_pebbletoll_k28_answers_judged" 624) (.ref 357))
def eha:Obj:=(fR "_law_standings" "_law_standings" (top 53))
def Yi:Obj:=(cO "_law_standings" "_law_standings" 685 686 687 219 5 0 0 3 (.ref 359) true 181 (.ref 360) .none .none .none (.ref 361) 688 219 689)
def ZB:Obj:=(fO "_law_standings" "_law_standings" (top 53) (.str "law_pebbletoll_k28_answers_judged" 624) (.ref 362))
def Y5:Obj:=(tO #[(.str "script" 694),(.str "head" 695)])
def d4a:Obj:=(fR "_law_bound" "_law_bound" (top 54))
def YQ:Obj:=(cO "_law_bound" "_law_bound" 691 692 693 227 1 0 0 3 (.ref 364) true 181 (.ref 365) .none (.ref 366) (.ref 367) (.ref 368) 696 227 697)
def aKa:Obj:=(fO "_law_bound" "_law_bound" (top 54) (.str "law_pebbletoll_k28_answers_judged" 624) (.ref 369))
def YJ:Obj:=(tO #[(.str "script" 702),(.str "many" 703),(.str "bound" 704),(.str "laying" 705),(.str "k" 706),(.str "place" 707)])
def dma:Obj:=(fR "_law_laying" "_law_laying" (top 55))
def Ye:Obj:=(cO "_law_laying" "_law_laying" 699 700 701 230 3 0 0 3 (.ref 371) true 181 (.ref 372) .none (.ref 373) (.ref 374) (.ref 375) 708 230 709)
def YM:Obj:=(fO "_law_laying" "_law_laying" (top 55) (.str "law_pebbletoll_k28_answers_judged" 624) (.ref 376))
def asa:Obj:=(tO #[(.str "script" 714),(.str "many" 715),(.str "bound" 716),(.str "wish" 717),(.str "k" 718),(.str "place" 719)])
def eca:Obj:=(fR "_law_wish" "_law_wish" (top 56))
def ala:Obj:=(cO "_law_wish" "_law_wish" 711 712 713 237 3 0 0 3 (.ref 378) true 181 (.ref 379) .none (.ref 380) (.ref 381) (.ref 382) 720 237 721)
def aRa:Obj:=(fO "_law_wish" "_law_wish" (top 56) (.str "law_pebbletoll_k28_answers_judged" 624) (.ref 383))
def Zr:Obj:=(tO #[(.str "script" 726),(.str "tolls" 727),(.str "many" 728),(.str "laying" 729),(.str "wish" 730),(.str "head" 731),(.str "r" 732),(.str "due" 733)])
def dLa:Obj:=(fR "_law_edge" "_law_edge" (top 57))
def ZY:Obj:=(cO "_law_edge" "_law_edge" 723 724 725 244 5 0 0 3 (.ref 385) true 181 (.ref 386) .none (.ref 387) (.ref 388) (.ref 389) 734 244 735)
def Z6:Obj:=(fO "_law_edge" "_law_edge" (top 57) (.str "law_pebbletoll_k28_answers_judged" 624) (.ref 390))
def YL:Obj:=(tO #[(.str "tolls" 740),(.str "laying" 741),(.str "steps" 742),(.str "held" 743),(.str "a" 744),(.str "b" 745),(.str "often" 746)])
def dja:Obj:=(fR "_law_done" "_law_done" (top 58))
def bfa:Obj:=(cO "_law_done" "_law_done" 737 738 739 252 3 0 0 3 (.ref 392) true 181 (.ref 393) .none (.ref 394) (.ref 395) (.ref 396) 747 252 748)
def aLa:Obj:=(fO "_law_done" "_law_done" (top 58) (.str "law_pebbletoll_k28_answers_judged" 624) (.ref 397))
def dea:Obj:=(fR "_law_covers" "_law_covers" (top 59))
def axa:Obj:=(cO "_law_covers" "_law_covers" 750 751 752 260 2 0 0 3 (.ref 399) true 181 (.ref 400) .none .none .none (.ref 401) 753 260 754)
def Yj:Obj:=(fO "_law_covers" "_law_covers" (top 59) (.str "law_pebbletoll_k28_answers_judged" 624) (.ref 402))
def aja:Obj:=(tO #[(.str "tolls" 759),(.str "many" 760),(.str "laying" 761),(.str "wish" 762),(.str "r" 763),(.str "found" 764),(.str "order" 765),(.str "steps" 766),(.str "place" 767),(.str "above" 768)])
def dya:Obj:=(fR "_law_steps" "_law_steps" (top 60))
def a0a:Obj:=(cO "_law_steps" "_law_steps" 756 757 758 262 5 0 0 3 (.ref 404) true 181 (.ref 405) .none (.ref 406) (.ref 407) (.ref 408) 769 262 770)
def bca:Obj:=(fO "_law_steps" "_law_steps" (top 60) (.str "law_pebbletoll_k28_answers_judged" 624) (.ref 409))
def YV:Obj:=(tO #[(.str "step" 775),(.str "cell" 776),(.str "many" 777),(.str "a" 778),(.str "b" 779),(.str "often" 780),(.str "some" 781)])
def c9a:Obj:=(fR "_law_step_spoilt" "_law_step_spoilt" (top 61))
def YX:Obj:=(cO "_law_step_spoilt" "_law_step_spoilt" 772 773 774 273 3 0 0 3 (.ref 411) true 181 (.ref 412) .none (.ref 413) (.ref 414) (.ref 415) 782 273 783)
def bna:Obj:=(fO "_law_step_spoilt" "_law_step_spoilt" (top 61) (.str "law_pebbletoll_k28_answers_judged" 624) (.ref 416))
def aGa:Obj:=(tO #[(.str "steps" 788),(.str "tolls" 789),(.str "cell" 790),(.str "many" 791),(.str "told" 792),(.str "road" 793),(.str "at" 794)])
def d2a:Obj:=(fR "_law_steps_else" "_law_steps_else" (top 62))
def ZR:Obj:=(cO "_law_steps_else" "_law_steps_else" 785 786 787 278 4 0 0 3 (.ref 418) true 181 (.ref 419) .none (.ref 420) (.ref 421) (.ref 422) 795 278 796)
def Y9:Obj:=(fO "_law_steps_else" "_law_steps_else" (top 62) (.str "law_pebbletoll_k28_answers_judged" 624) (.ref 423))
def X9:Obj:=(tO #[(.str "lacks" 801),(.str "cell" 802),(.str "at" 803),(.str "told" 804),(.str "more" 805)])
def eoa:Obj:=(fR "_law_lacks_else" "_law_lacks_else" (top 63))
def Zf:Obj:=(cO "_law_lacks_else" "_law_lacks_else" 798 799 800 290 2 0 0 3 (.ref 425) true 181 (.ref 426) .none (.ref 427) (.ref 428) (.ref 429) 806 290 807)
def bma:Obj:=(fO "_law_lacks_else" "_law_lacks_else" (top 63) (.str "law_pebbletoll_k28_answers_judged" 624) (.ref 430))
def eea:Obj:=(fR "law" "law" (top 64))
def ZS:Obj:=(cO "law" "law" 809 810 811 296 1 0 0 3 (.ref 432) true 181 (.ref 433) .none .none .none (.ref 434) 812 296 813)
def Yg:Obj:=(fO "law" "law" (top 64) (.str "law_pebbletoll_k28_answers_judged" 624) (.ref 435))
noncomputable def h1 (P:Params):Heap:=.mk (.mk (boot_o_0 P::boot_o_1 P::boot_o_2 P::aYa P::boot_o_4 P::boot_o_5 P::boot_o_6 P::boot_o_7 P::boot_o_8 P::boot_o_9 P::boot_o_10 P::x0::dsa::x2::x3::x6::x7::x8 P::x0::x1::x9::x10::x0::x11 P::x12::x13::x14::x15::x16::x7::x17 P::x0::x1::x18::x19::x0::x20 P::x21::x22::x23::x16::x7::x24 P::x0::x1::x25::x26::x0::x27 P::x28::x29::x30::x16::x7::x31 P::x0::x1::x32::x33::x0::x34 P::x35::x36::x37::x16::x7::x38 P::x0::x1::x39::x40::x0::x41 P::x42::x43::x44::x16::x7::x45 P::x0::x1::x46::x47::x0::x48 P::x49::x50::x51::x16::x7::x52 P::x0::x53::x54::x55::x0::x1::x56::x0::x57::x58::x59::x60::x61 P::x62::x63::x64::x0::x7::x65 P::x0::x66::x67::x68::x0::x1::x69::x70::x71::x72::x73 P::x74::x75::x76::x77::x78::x0::x1::x79::x0::x80::x81::x82::x0::x1::x83::x0::x84::x85::x86::x0::x1::x87::x0::x88::x89::x90::x0::x1::x91::x0::x92::x93::x94::x0::x1::x95::x0::x96::x97::x98::x0::x1::x99::x0::aIa::Uv::Vm::x0::x1::UF::x0::YE::UM::Vp::x0::x1::ZZ::x0::dka::aFa::Zz::x0::x1::ana::x0::dRa::aSa::aBa::x0::x1::ata::x0::dHa::YZ::ava::x0::x1::c2a::Yx::Z4::x0::x1::dha::Zp::aaa::x0::x1::aua::x0::dIa::baa::ara::x0::x1::YC::x0::dua::Zm::YI::x0::x1::aya::x0::d7a::Ys::bba::x0::x1::ZO::x0::c6a::apa::aba::x0::x1::aUa::x0::dda::aza::aqa::x0::x1::ama::x0::dGa::Zi::Z9::x0::x1::ZI::x0::dDa::Y7::X7::x0::x1::YN::x0::dia::ZC::a4a::x0::x1::eja::YG::Z2::x0::x1::eia::bwa::Zw::x0::x1::bva::x0::dca::Zb::bha::x0::x1::dJa::Zq::Z7::x0::x1::Zs::x0::eka::ZA::Zx::x0::x1::ZE::x0::dba::ZW::Z0::x0::x1::bra::x0::eaa::ZK::Yz::x0::x1::dUa::aOa::Yd::x0::x1::a6a::x0::c3a::Yn::Yw::x0::x1::YT::x0::dxa::aDa::a1a::x0::x1::Zo::x0::c1a::aHa::YO::x0::x1::bea::x0::d5a::ZH::X8::x0::x1::bga::x0::ela::Zy::bia::x0::x1::Z8::x0::dPa::YA::aMa::x0::x1::bta::x0::epa::Z3::Yp::x0::x1::eha::Yi::ZB::x0::x1::Y5::x0::d4a::YQ::aKa::x0::x1::YJ::x0::dma::Ye::YM::x0::x1::asa::x0::eca::ala::aRa::x0::x1::Zr::x0::dLa::ZY::Z6::x0::x1::YL::x0::dja::bfa::aLa::x0::x1::dea::axa::Yj::x0::x1::aja::x0::dya::a0a::bca::x0::x1::YV::x0::c9a::YX::bna::x0::x1::aGa::x0::d2a::ZR::Y9::x0::x1::X9::x0::eoa::Zf::bma::x0::x1::eea::ZS::Yg::[])) (.mk [] [] [] 0 [] [] false #[] [] 0 false false false 0 [2000,10,10] false 0 true [] [] 0 false)
theorem eTa (w:World) (os:OsState):segRun treeTable PySem.Challenge.pw_pebbletoll_k28_answers_judged w 11 (some (.ref 6)) 1 1304 (Shared.mk (h0 w.params) (.mk []) (.mk 0 0 0 0) 409 os) (piecesOf st1 env cE (.mk 61 0 64 55) [topFrame (.mk 0 0 0 0)])=some (.next,(Shared.mk (h1 w.params) (.mk []) (.mk 0 0 0 0) 815 os),cE,(.mk 296 0 321 35)):=by kernel_rfl
noncomputable def hf (P:Params):Heap:=.mk (.mk (boot_o_0 P::boot_o_1 P::boot_o_2 P::aYa P::boot_o_4 P::boot_o_5 P::boot_o_6 P::boot_o_7 P::boot_o_8 P::boot_o_9 P::boot_o_10 P::x0::dsa::x2::x3::x6::x7::x8 P::x0::x1::x9::x10::x0::x11 P::x12::x13::x14::x15::x16::x7::x17 P::x0::x1::x18::x19::x0::x20 P::x21::x22::x23::x16::x7::x24 P::x0::x1::x25::x26::x0::x27 P::x28::x29::x30::x16::x7::x31 P::x0::x1::x32::x33::x0::x34 P::x35::x36::x37::x16::x7::x38 P::x0::x1::x39::x40::x0::x41 P::x42::x43::x44::x16::x7::x45 P::x0::x1::x46::x47::x0::x48 P::x49::x50::x51::x16::x7::x52 P::x0::x53::x54::x55::x0::x1::x56::x0::x57::x58::x59::x60::x61 P::x62::x63::x64::x0::x7::x65 P::x0::x66::x67::x68::x0::x1::x69::x70::x71::x72::x73 P::x74::x75::x76::x77::x78::x0::x1::x79::x0::x80::x81::x82::x0::x1::x83::x0::x84::x85::x86::x0::x1::x87::x0::x88::x89::x90::x0::x1::x91::x0::x92::x93::x94::x0::x1::x95::x0::x96::x97::x98::x0::x1::x99::x0::aIa::Uv::Vm::x0::x1::UF::x0::YE::UM::Vp::x0::x1::ZZ::x0::dka::aFa::Zz::x0::x1::ana::x0::dRa::aSa::aBa::x0::x1::ata::x0::dHa::YZ::ava::x0::x1::c2a::Yx::Z4::x0::x1::dha::Zp::aaa::x0::x1::aua::x0::dIa::baa::ara::x0::x1::YC::x0::dua::Zm::YI::x0::x1::aya::x0::d7a::Ys::bba::x0::x1::ZO::x0::c6a::apa::aba::x0::x1::aUa::x0::dda::aza::aqa::x0::x1::ama::x0::dGa::Zi::Z9::x0::x1::ZI::x0::dDa::Y7::X7::x0::x1::YN::x0::dia::ZC::a4a::x0::x1::eja::YG::Z2::x0::x1::eia::bwa::Zw::x0::x1::bva::x0::dca::Zb::bha::x0::x1::dJa::Zq::Z7::x0::x1::Zs::x0::eka::ZA::Zx::x0::x1::ZE::x0::dba::ZW::Z0::x0::x1::bra::x0::eaa::ZK::Yz::x0::x1::dUa::aOa::Yd::x0::x1::a6a::x0::c3a::Yn::Yw::x0::x1::YT::x0::dxa::aDa::a1a::x0::x1::Zo::x0::c1a::aHa::YO::x0::x1::bea::x0::d5a::ZH::X8::x0::x1::bga::x0::ela::Zy::bia::x0::x1::Z8::x0::dPa::YA::aMa::x0::x1::bta::x0::epa::Z3::Yp::x0::x1::eha::Yi::ZB::x0::x1::Y5::x0::d4a::YQ::aKa::x0::x1::YJ::x0::dma::Ye::YM::x0::x1::asa::x0::eca::ala::aRa::x0::x1::Zr::x0::dLa::ZY::Z6::x0::x1::YL::x0::dja::bfa::aLa::x0::x1::dea::axa::Yj::x0::x1::aja::x0::dya::a0a::bca::x0::x1::YV::x0::c9a::YX::bna::x0::x1::aGa::x0::d2a::ZR::Y9::x0::x1::X9::x0::eoa::Zf::bma::x0::x1::eea::ZS::Yg::[])) (.mk [] [] [] 0 [] [] false #[] [] 0 false false false 0 [2000,10,10] false 0 true [] [] 0 false)
theorem eVa (w:World) (os:OsState):topRun treeTable PySem.Challenge.pw_pebbletoll_k28_answers_judged w 11 (some (.ref 6)) 2 (Shared.mk (h1 w.params) (.mk []) (.mk 0 0 0 0) 815 os) (restOf [] env cE (.mk 296 0 321 35) [topFrame (.mk 0 0 0 0)])=some (Shared.mk (hf w.params) (.mk []) (.mk 0 0 0 0) 815 os):=by kernel_rfl
theorem run (w:World) (os:OsState):topRun treeTable PySem.Challenge.pw_pebbletoll_k28_answers_judged w 11 (some (.ref 6)) (12+(1+(1976+(1304+(2))))) (Shared.mk (boot_heap w.params) (.mk []) boot_drawn boot_toks os) (topStub PySem.Challenge.pw_pebbletoll_k28_answers_judged)=some (Shared.mk (hf w.params) (.mk []) (.mk 0 0 0 0) 815 os):=go_top (eNa w os) (piece_block (eYa w os) (piece_app (eWa w os) (piece_app (eTa w os) (eVa w os))))
theorem opn:∀ w:World,(fencedOpening treeTable PySem.Challenge.pw_pebbletoll_k28_answers_judged w 6682).map (fun s=>(s.heap,s.gens,s.drawn,s.toks))=some (boot_heap w.params,Array.mk [],boot_drawn,boot_toks):=boot_open (by kernel_rfl) (by decide) fun s=>by kernel_rfl
theorem siz (w:World):((boot_heap w.params).isNs mainGlobals && (Array.mk ([]:List GenState)).size == 0,(boot_heap w.params).objs.size,(boot_heap w.params).nsMap mainGlobals "__annotations__")=(true,11,(some (.ref 6))):=by kernel_rfl
noncomputable def KK:Params->Frag:=fun P =>
 (nat_lit 2,boot_o_2 P) ::
 (nat_lit 3,aYa P) ::
 (nat_lit 15,x6) ::
 (nat_lit 22,x0) ::
 (nat_lit 23,x11 P) ::
 (nat_lit 24,x12) ::
 (nat_lit 25,x13) ::
 (nat_lit 28,x16) ::
 (nat_lit 35,x0) ::
 (nat_lit 36,x20 P) ::
 (nat_lit 37,x21) ::
 (nat_lit 40,x16) ::
 (nat_lit 47,x0) ::
 (nat_lit 48,x27 P) ::
 (nat_lit 49,x28) ::
 (nat_lit 52,x16) ::
 (nat_lit 59,x0) ::
 (nat_lit 60,x34 P) ::
 (nat_lit 61,x35) ::
 (nat_lit 64,x16) ::
 (nat_lit 71,x0) ::
 (nat_lit 72,x41 P) ::
 (nat_lit 73,x42) ::
 (nat_lit 76,x16) ::
 (nat_lit 83,x0) ::
 (nat_lit 84,x48 P) ::
 (nat_lit 85,x49) ::
 (nat_lit 88,x16) ::
 (nat_lit 95,x0) ::
 (nat_lit 97,x56) ::
 (nat_lit 98,x0) ::
 (nat_lit 100,x58) ::
 (nat_lit 101,x59) ::
 (nat_lit 102,x60) ::
 (nat_lit 103,x61 P) ::
 (nat_lit 104,x62) ::
 (nat_lit 114,x0) ::
 (nat_lit 117,x70) ::
 (nat_lit 118,x71) ::
 (nat_lit 119,x72) ::
 (nat_lit 120,x73 P) ::
 (nat_lit 121,x74) ::
 (nat_lit 122,x75) ::
 (nat_lit 123,x76) ::
 (nat_lit 126,x0) ::
 (nat_lit 128,x79) ::
 (nat_lit 129,x0) ::
 (nat_lit 131,x81) ::
 (nat_lit 132,x82) ::
 (nat_lit 133,x0) ::
 (nat_lit 135,x83) ::
 (nat_lit 136,x0) ::
 (nat_lit 138,x85) ::
 (nat_lit 139,x86) ::
 (nat_lit 140,x0) ::
 (nat_lit 142,x87) ::
 (nat_lit 143,x0) ::
 (nat_lit 145,x89) ::
 (nat_lit 146,x90) ::
 (nat_lit 147,x0) ::
 (nat_lit 149,x91) ::
 (nat_lit 150,x0) ::
 (nat_lit 152,x93) ::
 (nat_lit 153,x94) ::
 (nat_lit 154,x0) ::
 (nat_lit 156,x95) ::
 (nat_lit 157,x0) ::
 (nat_lit 159,x97) ::
 (nat_lit 160,x98) ::
 (nat_lit 161,x0) ::
 (nat_lit 163,x99) ::
 (nat_lit 164,x0) ::
 (nat_lit 166,Uv) ::
 (nat_lit 167,Vm) ::
 (nat_lit 168,x0) ::
 (nat_lit 170,UF) ::
 (nat_lit 171,x0) ::
 (nat_lit 173,UM) ::
 (nat_lit 174,Vp) ::
 (nat_lit 175,x0) ::
 (nat_lit 177,ZZ) ::
 (nat_lit 178,x0) ::
 (nat_lit 180,aFa) ::
 (nat_lit 181,Zz) ::
 (nat_lit 182,x0) ::
 (nat_lit 184,ana) ::
 (nat_lit 185,x0) ::
 (nat_lit 187,aSa) ::
 (nat_lit 188,aBa) ::
 (nat_lit 189,x0) ::
 (nat_lit 191,ata) ::
 (nat_lit 192,x0) ::
 (nat_lit 194,YZ) ::
 (nat_lit 195,ava) ::
 (nat_lit 196,x0) ::
 (nat_lit 199,Yx) ::
 (nat_lit 200,Z4) ::
 (nat_lit 201,x0) ::
 (nat_lit 204,Zp) ::
 (nat_lit 205,aaa) ::
 (nat_lit 206,x0) ::
 (nat_lit 208,aua) ::
 (nat_lit 209,x0) ::
 (nat_lit 211,baa) ::
 (nat_lit 212,ara) ::
 (nat_lit 213,x0) ::
 (nat_lit 215,YC) ::
 (nat_lit 216,x0) ::
 (nat_lit 218,Zm) ::
 (nat_lit 219,YI) ::
 (nat_lit 220,x0) ::
 (nat_lit 222,aya) ::
 (nat_lit 223,x0) ::
 (nat_lit 225,Ys) ::
 (nat_lit 226,bba) ::
 (nat_lit 227,x0) ::
 (nat_lit 229,ZO) ::
 (nat_lit 230,x0) ::
 (nat_lit 232,apa) ::
 (nat_lit 233,aba) ::
 (nat_lit 234,x0) ::
 (nat_lit 236,aUa) ::
 (nat_lit 237,x0) ::
 (nat_lit 239,aza) ::
 (nat_lit 240,aqa) ::
 (nat_lit 241,x0) ::
 (nat_lit 243,ama) ::
 (nat_lit 244,x0) ::
 (nat_lit 246,Zi) ::
 (nat_lit 247,Z9) ::
 (nat_lit 248,x0) ::
 (nat_lit 250,ZI) ::
 (nat_lit 251,x0) ::
 (nat_lit 253,Y7) ::
 (nat_lit 254,X7) ::
 (nat_lit 255,x0) ::
 (nat_lit 257,YN) ::
 (nat_lit 258,x0) ::
 (nat_lit 260,ZC) ::
 (nat_lit 261,a4a) ::
 (nat_lit 262,x0) ::
 (nat_lit 265,YG) ::
 (nat_lit 266,Z2) ::
 (nat_lit 267,x0) ::
 (nat_lit 270,bwa) ::
 (nat_lit 271,Zw) ::
 (nat_lit 272,x0) ::
 (nat_lit 274,bva) ::
 (nat_lit 275,x0) ::
 (nat_lit 277,Zb) ::
 (nat_lit 278,bha) ::
 (nat_lit 279,x0) ::
 (nat_lit 282,Zq) ::
 (nat_lit 283,Z7) ::
 (nat_lit 284,x0) ::
 (nat_lit 286,Zs) ::
 (nat_lit 287,x0) ::
 (nat_lit 289,ZA) ::
 (nat_lit 290,Zx) ::
 (nat_lit 291,x0) ::
 (nat_lit 293,ZE) ::
 (nat_lit 294,x0) ::
 (nat_lit 296,ZW) ::
 (nat_lit 297,Z0) ::
 (nat_lit 298,x0) ::
 (nat_lit 300,bra) ::
 (nat_lit 301,x0) ::
 (nat_lit 303,ZK) ::
 (nat_lit 304,Yz) ::
 (nat_lit 305,x0) ::
 (nat_lit 308,aOa) ::
 (nat_lit 309,Yd) ::
 (nat_lit 310,x0) ::
 (nat_lit 312,a6a) ::
 (nat_lit 313,x0) ::
 (nat_lit 315,Yn) ::
 (nat_lit 316,Yw) ::
 (nat_lit 317,x0) ::
 (nat_lit 319,YT) ::
 (nat_lit 320,x0) ::
 (nat_lit 322,aDa) ::
 (nat_lit 323,a1a) ::
 (nat_lit 324,x0) ::
 (nat_lit 326,Zo) ::
 (nat_lit 327,x0) ::
 (nat_lit 329,aHa) ::
 (nat_lit 330,YO) ::
 (nat_lit 331,x0) ::
 (nat_lit 333,bea) ::
 (nat_lit 334,x0) ::
 (nat_lit 336,ZH) ::
 (nat_lit 337,X8) ::
 (nat_lit 338,x0) ::
 (nat_lit 340,bga) ::
 (nat_lit 341,x0) ::
 (nat_lit 343,Zy) ::
 (nat_lit 344,bia) ::
 (nat_lit 345,x0) ::
 (nat_lit 347,Z8) ::
 (nat_lit 348,x0) ::
 (nat_lit 350,YA) ::
 (nat_lit 351,aMa) ::
 (nat_lit 352,x0) ::
 (nat_lit 354,bta) ::
 (nat_lit 355,x0) ::
 (nat_lit 357,Z3) ::
 (nat_lit 358,Yp) ::
 (nat_lit 359,x0) ::
 (nat_lit 362,Yi) ::
 (nat_lit 363,ZB) ::
 (nat_lit 364,x0) ::
 (nat_lit 366,Y5) ::
 (nat_lit 367,x0) ::
 (nat_lit 369,YQ) ::
 (nat_lit 370,aKa) ::
 (nat_lit 371,x0) ::
 (nat_lit 373,YJ) ::
 (nat_lit 374,x0) ::
 (nat_lit 376,Ye) ::
 (nat_lit 377,YM) ::
 (nat_lit 378,x0) ::
 (nat_lit 380,asa) ::
 (nat_lit 381,x0) ::
 (nat_lit 383,ala) ::
 (nat_lit 384,aRa) ::
 (nat_lit 385,x0) ::
 (nat_lit 387,Zr) ::
 (nat_lit 388,x0) ::
 (nat_lit 390,ZY) ::
 (nat_lit 391,Z6) ::
 (nat_lit 392,x0) ::
 (nat_lit 394,YL) ::
 (nat_lit 395,x0) ::
 (nat_lit 397,bfa) ::
 (nat_lit 398,aLa) ::
 (nat_lit 399,x0) ::
 (nat_lit 402,axa) ::
 (nat_lit 403,Yj) ::
 (nat_lit 404,x0) ::
 (nat_lit 406,aja) ::
 (nat_lit 407,x0) ::
 (nat_lit 409,a0a) ::
 (nat_lit 410,bca) ::
 (nat_lit 411,x0) ::
 (nat_lit 413,YV) ::
 (nat_lit 414,x0) ::
 (nat_lit 416,YX) ::
 (nat_lit 417,bna) ::
 (nat_lit 418,x0) ::
 (nat_lit 420,aGa) ::
 (nat_lit 421,x0) ::
 (nat_lit 423,ZR) ::
 (nat_lit 424,Y9) ::
 (nat_lit 425,x0) ::
 (nat_lit 427,X9) ::
 (nat_lit 428,x0) ::
 (nat_lit 430,Zf) ::
 (nat_lit 431,bma) ::
 (nat_lit 432,x0) ::
 (nat_lit 435,ZS) ::
 (nat_lit 436,Yg)::[]
abbrev qq:Program:=PySem.W.view PySem.Challenge.pw_pebbletoll_k28_answers_judged [1,2,3,4,5,6,7,9,10,11,12,13,14,15,16,17,18,19,20,21,23,24,25,27,28,29,30,31,32,34,35,36,37,39,40,41,42,43,44,45,46,48,49,50,51,52,53,54,55,56,57,58,59,60,61,62,63,64]
abbrev asK:List Addr:=[2,3,15,22,23,24,25,28,35,36,37,40,47,48,49,52,59,60,61,64,71,72,73,76,83,84,85,88,95,97,98,100,101,102,103,104,114,117,118,119,120,121,122,123,126,128,129,131,132,133,135,136,138,139,140,142,143,145,146,147,149,150,152,153,154,156,157,159,160,161,163,164,166,167,168,170,171,173,174,175,177,178,180,181,182,184,185,187,188,189,191,192,194,195,196,199,200,201,204,205,206,208,209,211,212,213,215,216,218,219,220,222,223,225,226,227,229,230,232,233,234,236,237,239,240,241,243,244,246,247,248,250,251,253,254,255,257,258,260,261,262,265,266,267,270,271,272,274,275,277,278,279,282,283,284,286,287,289,290,291,293,294,296,297,298,300,301,303,304,305,308,309,310,312,313,315,316,317,319,320,322,323,324,326,327,329,330,331,333,334,336,337,338,340,341,343,344,345,347,348,350,351,352,354,355,357,358,359,362,363,364,366,367,369,370,371,373,374,376,377,378,380,381,383,384,385,387,388,390,391,392,394,395,397,398,399,402,403,404,406,407,409,410,411,413,414,416,417,418,420,421,423,424,425,427,428,430,431,432,435,436]
theorem asK_eq:∀ P,asK=(KK P).map (·.1):=fun _=>by kernel_rfl
theorem eEa (w:World):(fun os=>((staticsOk (importedModules PySem.Challenge.pw_pebbletoll_k28_answers_judged.main.body) (boot_heap w.params) (hf w.params) && namesBound PySem.Challenge.pw_pebbletoll_k28_answers_judged (hf w.params) && gensDone (Shared.mk (Hd.hf w.params) (.mk []) (.mk 0 0 0 0) 815 os) && laidKept (boot_heap w.params) (hf w.params)),openSeen qq [] (importedModules PySem.Challenge.pw_pebbletoll_k28_answers_judged.main.body) (fun s=>PySem.W.xlAt Hd.qq [] s && PySem.W.recOk (PySem.W.RowW.records (PySem.W.OpenRow.toRowW (PySem.Challenge.rw_pebbletoll_k28_answers_judged).row)) s) true (Shared.mk (Hd.hf w.params) (.mk []) (.mk 0 0 0 0) 815 os),Hook.obs (PySem.W.kHook Hd.KK Hd.asK Hd.asK_eq) (Shared.mk (Hd.hf w.params) (.mk []) (.mk 0 0 0 0) 815 os)))=fun _=>(true,openGood qq [],Hook.val (PySem.W.kHook Hd.KK Hd.asK Hd.asK_eq) w):=by kernel_rfl
theorem left:PySem.W.LeftO (PySem.Challenge.rw_pebbletoll_k28_answers_judged).row.prog qq [] (fun s=>PySem.W.xlAt Hd.qq [] s && PySem.W.recOk (PySem.W.RowW.records (PySem.W.OpenRow.toRowW (PySem.Challenge.rw_pebbletoll_k28_answers_judged).row)) s) (PySem.W.Hook.obs (PySem.W.kHook Hd.KK Hd.asK Hd.asK_eq)) (PySem.W.Hook.val (PySem.W.kHook Hd.KK Hd.asK Hd.asK_eq)) 6682:=LeftO.of_pieces opn siz run (by decide) eEa
end Hd
namespace L2
open PySem PySem.Spec PyProof.Rows
abbrev Key:=Sum Int Str
def GJ:Key->Value->Bool
 | .inl k,v=>Value.isInt k v
 | .inr x,v=>Value.isStrOf x v
def eXa (w:World):Key->Int
 | .inl k=>hashInt k
 | .inr x=>hashStr w x
theorem jN:∀ {k:Key} {v:Value},GJ k v=true->(∃ i t,k=Sum.inl i/\v=Value.int i t)\/(∃ x t,k=Sum.inr x/\v=Value.str x t)
 | .inl i,v,h=>by
   obtain ⟨t,e⟩:=Value.isInt_shape (k:=i) (v:=v) h;exact .inl ⟨i,t,rfl,e⟩
 | .inr x,v,h=>by
   obtain ⟨t,e⟩:=Value.isStrOf_shape (x:=x) (v:=v) h;exact .inr ⟨x,t,rfl,e⟩
theorem WC (i:Int) (t:Tok):GJ (.inl i) (.int i t)=true:=by simp [GJ,Value.isInt]
theorem W6 (x:Str) (t:Tok):GJ (.inr x) (.str x t)=true:=by simp [GJ,Value.isStrOf]
theorem dta (a b:Int):decide ((Sum.inl a:Key)=Sum.inl b)=(a == b):=by
 by_cases e:a=b
 . subst e;simp
 . have h:¬ (Sum.inl a:Key)=Sum.inl b:=fun q=>e (Sum.inl.inj q);rw [bZ h];exact (beq_eq_false_iff_ne.mpr e).symm
theorem dra (a b:Str):decide ((Sum.inr a:Key)=Sum.inr b)=decide (a=b):=by
 by_cases e:a=b
 . subst e;simp
 . have h:¬ (Sum.inr a:Key)=Sum.inr b:=fun q=>e (Sum.inr.inj q);rw [bZ h,bZ e]
theorem daa (a:Int) (b:Str):decide ((Sum.inl a:Key)=Sum.inr b)=false:=bZ (fun q=>nomatch q)
theorem ena (a:Str) (b:Int):decide ((Sum.inr a:Key)=Sum.inl b)=false:=bZ (fun q=>nomatch q)
def jb (prog:Program) (w:World):PySem.KeyKind prog w Key where
 is:=GJ
 hash:=eXa w
 inj:=fun v a b ha hb=>by
   rcases jN ha with ⟨i,t,rfl,rfl⟩|⟨x,t,rfl,rfl⟩
   . rcases jN hb with ⟨j,u,rfl,e⟩|⟨y,u,rfl,e⟩
     . injection e with e1 _;rw [e1]
     . exact nomatch e
   . rcases jN hb with ⟨j,u,rfl,e⟩|⟨y,u,rfl,e⟩
     . exact nomatch e
     . injection e with e1 _;rw [e1]
 byValue:=fun k v h=>by
   rcases jN h with ⟨i,t,rfl,rfl⟩|⟨x,t,rfl,rfl⟩ <;> rfl
 pyHash:=fun hv h=>by
   rcases jN hv with ⟨i,t,rfl,rfl⟩|⟨x,t,rfl,rfl⟩
   . exact mD h
   . exact wpAny_pyHash_str h
 eqBool:=fun hu hv h=>by
   rcases jN hu with ⟨i,t,rfl,rfl⟩|⟨x,t,rfl,rfl⟩
   . rcases jN hv with ⟨j,u,rfl,rfl⟩|⟨y,u,rfl,rfl⟩
     . rw [dta] at h;exact wpAny_eqBool_int h
     . rw [daa] at h;exact SeqAt.EqAt.int_str i t y u _ _ _ _ h
   . rcases jN hv with ⟨j,u,rfl,rfl⟩|⟨y,u,rfl,rfl⟩
     . rw [ena] at h;exact SeqAt.EqAt.str_int x t j u _ _ _ _ h
     . rw [dra] at h;exact wpAny_eqBool_str h
 «strs»:=fun k x t v h=>by
   rcases jN h with ⟨i,u,rfl,e⟩|⟨y,u,rfl,e⟩
   . exact nomatch e
   . injection e with e1 _
     subst e1;cases v <;> rfl
theorem RN (prog:Program) (w:World) (i:Int) (t:Tok):(jb prog w).is (.inl i) (.int i t)=true:=WC i t
theorem SD (prog:Program) (w:World) (x:Str) (t:Tok):(jb prog w).is (.inr x) (.str x t)=true:=W6 x t
end L2
namespace L2
open PySem PySem.Spec PyProof.Rows
inductive V where
 | non|bl (b:Bool)|int (i:Int)|str (x:Str)|byt (b:Array UInt8)|flt (b:UInt64)|ref (a:Addr)|ty (n:String)
 deriving DecidableEq
def RelV:V->Value->Prop
 | .non,u=>u=Value.none
 | .bl b,u=>u=Value.bool b
 | .int i,u=>∃ t,u=Value.int i t
 | .str x,u=>∃ t,u=Value.str x t
 | .byt b,u=>∃ t,u=Value.bytes b t
 | .flt b,u=>∃ t,u=Value.float b t
 | .ref a,u=>u=Value.ref a
 | .ty n,u=>u=Value.type n
abbrev Vals:List V->List Value->Prop:=Paired RelV
theorem Vals.length {xs:List V} {us:List Value} (r:Vals xs us):xs.length=us.length:=Paired.length r
theorem Vals.get:∀ {xs:List V} {us:List Value} {i:Nat} {x:V},Vals xs us->xs[i]?=some x->∃ u,us[i]?=some u/\RelV x u
 | _,_,_,_,.nil,e=>by simp at e
 | _,_,0,_,.cons r _,e=>by simp at e;subst e;exact ⟨_,rfl,r⟩
 | _,_,i+1,x,.cons _ t,e=>by
   obtain ⟨u,h1,h2⟩:=Vals.get (i:=i) (x:=x) t (by simpa using e);exact ⟨u,by simpa using h1,h2⟩
theorem Vals.set {x:V} {u:Value} (r:RelV x u):∀ {xs:List V} {us:List Value} (i:Nat),Vals xs us->Vals (xs.set i x) (us.set i u)
 | _,_,_,.nil=>.nil
 | _,_,0,.cons _ t=>.cons r t
 | _,_,i+1,.cons q t=>.cons q (Vals.set r i t)
theorem Vals.append:∀ {xs ys:List V} {us ws:List Value},Vals xs us->Vals ys ws->Vals (xs++ys) (us++ws)
 | _,_,_,_,.nil,s=>s
 | _,_,_,_,.cons r t,s=>.cons r (Vals.append t s)
theorem Vals.take:∀ {xs:List V} {us:List Value} (n:Nat),Vals xs us->Vals (xs.take n) (us.take n)
 | _,_,0,_=>.nil
 | _,_,_+1,.nil=>.nil
 | _,_,n+1,.cons r t=>.cons r (Vals.take n t)
theorem Vals.drop:∀ {xs:List V} {us:List Value} (n:Nat),Vals xs us->Vals (xs.drop n) (us.drop n)
 | _,_,0,r=>r
 | _,_,_+1,.nil=>.nil
 | _,_,n+1,.cons _ t=>Vals.drop n t
def RelO:Option V->Option Value->Prop
 | some v,some u=>RelV v u
 | none,none=>True
 | _,_=>False
def KV {κ:Type}:List (κ × V)->List (κ × Value)->Prop:=Paired fun (p:κ × V) (q:κ × Value)=>p.1=q.1/\RelV p.2 q.2
def kV:Key->V
 | .inl i=>.int i
 | .inr x=>.str x
inductive HO where
 /-- a list -/
 | lst (xs:List V)
 /-- a tuple (never changes) -/
 | tup (xs:List V)
 /-- a dict whose keys are ints and texts;one whose keys are tuples of ints and texts (the empty one is both) -/
 | dK (kvs:List (Key × V))|dT (kvs:List (List Key × V))
 /-- a set of ints: its members,its size -/
 | set (S:Int->Bool) (n:Nat)
 /-- an instance of the class at C,its dict at dx,its attributes -/
 | ins (C dx:Addr) (fs:List (Str × V))
 /-- the dict of the instance at x -/
 | own (x:Addr)
 /-- the dict of an exception -/
 | xd (fs:List (Str × V))
 /-- a bound method,f of x -/
 | met (f x:Addr)
 /-- a range object lo,lo+1,.. below hi -/
 | rng (lo hi:Int)
 /-- a thing that is known to the object (the script;a dict while a loop walks it): read,never written while it is so -/
 | frz (o:Obj) (u:HO)
 /-- a code object's table -/
 | tbl (ps:Array Value)
 /-- any other thing,by what is true of its one object (a def of one's own: SetO a S n:=HO.ext fun h=>..) -/
 | ext (φ:Heap->Prop)
abbrev Hp:=Addr->Option HO
def upd (H:Hp) (a:Addr) (o:HO):Hp:=fun b=>if b=a then some o else H b
theorem aq {H:Hp} {a:Addr} {o:HO}:upd H a o a=some o:=by unfold upd;rw [am rfl]
theorem aR {H:Hp} {a b:Addr} {o:HO} (h:b≠a):upd H a o b=H b:=by unfold upd;rw [aj h]
theorem uC {H:Hp} {a:Addr} {o u:HO}:upd (upd H a o) a u=upd H a u:=by
 funext b;unfold upd;split <;> rfl
theorem lA {H:Hp} {a b:Addr} {o u:HO} (h:H a=some o) (h':H b=some u) (d:o≠u):a≠b:=by
 intro e;subst e;rw [h] at h';exact d (bh h')
theorem dc {H:Hp} {a b:Addr} {o:HO} (h:H a=some o) (h':H b=none):a≠b:=by
 intro e;subst e;rw [h] at h';cases h'
section
variable (P:Program) (w:World)
def ObjOk (H:Hp) (h:Heap) (a:Addr):HO->Prop
 | .lst xs=>xs.length<=sizeLine/\∃ (its:List Value) (n:Nat),Vals xs its/\h.get? a=some { cls:=.type "list",data:=.seq its.toArray n }
 | .tup xs=>xs.length<=sizeLine/\∃ its:List Value,Vals xs its/\IsTup h a its.toArray
 | .dK kvs=>kvs.length<=sizeLine/\(a == sysModules)=false/\∃ vs,KV kvs vs/\h.DictOf (jb P w) a vs
 | .dT kvs=>kvs.length<=sizeLine/\(a == sysModules)=false/\∃ xs:List (List Key × Addr × Value),
     Paired (fun (p:List Key × V) (q:List Key × Addr × Value)=>p.1=q.1/\H q.2.1=some (.tup (p.1.map kV))/\RelV p.2 q.2.2) kvs xs /\
     ∃ o es ep,h.get? a=some o/\o.ExactDict/\o.data=.dict es ep/\es.toList=xs.map (entryOfKey (tupleKind (jb P w)))/\(xs.map (·.1)).Nodup
 | .set S n=>h.SetOf (intKind P w) a S n
 | .ins C dx fs=>H dx=some (.own a)/\fs.length<=1000/\dx≠a/\h.get? a=some (PySem.W.instObj C dx) /\
     ∃ mA,h.Ns1 dx mA/\(∀ f,RelO (fs.lookup f) (mA f))/\PySem.Within mA (fs.map (·.1))
 | .own _=>∃ o,h.get? a=some o
 | .xd fs=>∃ mA,h.Ns1 a mA/\∀ f,RelO (fs.lookup f) (mA f)
 | .rng lo hi=>∃ t u v,h.get? a=some { cls:=.type "range",data:=.fields #[.int lo t,.int hi u,.int 1 v] }
 | .frz o u=>h.get? a=some o/\ObjOk H h a u
 | .tbl ps=>h.get? a=some { cls:=.none,data:=.fields ps }
 | .met f x=>h.get? a=some (PySem.W.methodObj (.ref f) (.ref x))
 | .ext φ=>φ h/\(∃ o,h.get? a=some o)/\∀ h1 h2:Heap,φ h1->(∀ o,h1.get? a=some o->h2.get? a=some o)->φ h2
def HOk (H:Hp) (h:Heap):Prop:=∀ a o,H a=some o->ObjOk P w H h a o
end
section
variable {P:Program} {w:World} {H H':Hp} {h h':Heap} {a:Addr} {o:HO}
theorem ObjOk.lt (x:ObjOk P w H h a o):a<h.objs.size:=by
 cases o with
 | lst xs=>obtain ⟨_,_,_,_,e⟩:=x;exact aw e
 | tup xs=>obtain ⟨_,_,_,p⟩:=x;exact p.lt
 | dK kvs=>obtain ⟨_,_,_,_,o,_,_,e,_⟩:=x;exact aw e
 | dT kvs=>obtain ⟨_,_,_,_,o,_,_,e,_⟩:=x;exact aw e
 | set S n=>obtain ⟨o,_,_,_,e,_⟩:=x;exact aw e
 | ins C dx fs=>obtain ⟨_,_,_,e,_⟩:=x;exact aw e
 | own y=>obtain ⟨_,e⟩:=x;exact aw e
 | xd fs=>obtain ⟨_,⟨_,_,_,e,_⟩,_⟩:=x;exact aw e
 | rng lo hi=>obtain ⟨_,_,_,e⟩:=x;exact aw e
 | frz ob u=>obtain ⟨e,_⟩:=x;exact aw e
 | tbl ps=>exact aw (show h.get? a=some _ from x)
 | met f y=>exact aw (show h.get? a=some _ from x)
 | ext φ=>obtain ⟨_,⟨_,e⟩,_⟩:=x;exact aw e
theorem Paired.mapP {α β:Type} {F G:α->β->Prop}:∀ {l₁:List α} {l₂:List β},Paired F l₁ l₂->(∀ a b,F a b->G a b)->Paired G l₁ l₂
 | _,_,.nil,_=>.nil
 | _,_,.cons r t,f=>.cons (f _ _ r) (Paired.mapP t f)
theorem Paired.imp' {α β:Type} {F G:α->β->Prop} (f:∀ a b,F a b->G a b) {l₁:List α} {l₂:List β} (r:Paired F l₁ l₂):Paired G l₁ l₂:=Paired.mapP r f
theorem ObjOk.stay (x:ObjOk P w H h a o) (k:∀ b u,(b=a\/H b=some (.own a))->h.get? b=some u->h'.get? b=some u)
   (ho:∀ b,H b=some (.own a)->H' b=some (.own a)) (ht:∀ b xs,H b=some (.tup xs)->H' b=some (.tup xs)):ObjOk P w H' h' a o:=by
 induction o with
 | lst xs=>obtain ⟨z,its,n,r,e⟩:=x;exact ⟨z,its,n,r,k _ _ (.inl rfl) e⟩
 | tup xs=>obtain ⟨z,its,r,ob,e,c⟩:=x;exact ⟨z,its,r,ob,k _ _ (.inl rfl) e,c⟩
 | dK kvs=>obtain ⟨z,y,vs,r,ob,es,ep,e,c⟩:=x;exact ⟨z,y,vs,r,ob,es,ep,k _ _ (.inl rfl) e,c⟩
 | dT kvs =>
   obtain ⟨z,y,xs,r,ob,es,ep,e,c⟩:=x;exact ⟨z,y,xs,Paired.mapP r fun p q z=>⟨z.1,ht _ _ z.2.1,z.2.2⟩,ob,es,ep,k _ _ (.inl rfl) e,c⟩
 | set S n=>obtain ⟨ob,es,ep,t,e,c⟩:=x;exact ⟨ob,es,ep,t,k _ _ (.inl rfl) e,c⟩
 | ins C dx fs =>
   obtain ⟨d,z,ne,e,mA,⟨od,es,ep,e2,c⟩,r⟩:=x;exact ⟨ho _ d,z,ne,k _ _ (.inl rfl) e,mA,⟨od,es,ep,k _ _ (.inr d) e2,c⟩,r⟩
 | own y=>obtain ⟨ob,e⟩:=x;exact ⟨ob,k _ _ (.inl rfl) e⟩
 | xd fs=>obtain ⟨mA,⟨od,es,ep,e,c⟩,r⟩:=x;exact ⟨mA,⟨od,es,ep,k _ _ (.inl rfl) e,c⟩,r⟩
 | rng lo hi=>obtain ⟨t,u,v,e⟩:=x;exact ⟨t,u,v,k _ _ (.inl rfl) e⟩
 | frz ob u ih=>obtain ⟨e,q⟩:=x;exact ⟨k _ _ (.inl rfl) e,ih q⟩
 | tbl ps =>
   have e:h.get? a=some { cls:=.none,data:=.fields ps }:=x;show h'.get? a=some { cls:=.none,data:=.fields ps };exact k a _ (.inl rfl) e
 | met f y =>
   have e:h.get? a=some (PySem.W.methodObj (.ref f) (.ref y)):=x;show h'.get? a=some (PySem.W.methodObj (.ref f) (.ref y));exact k a _ (.inl rfl) e
 | ext φ=>obtain ⟨p,⟨o,e⟩,st⟩:=x;exact ⟨st _ _ p fun o q=>k _ _ (.inl rfl) q,⟨o,k _ _ (.inl rfl) e⟩,st⟩
theorem HOk.lt (x:HOk P w H h) (e:H a=some o):a<h.objs.size:=(x a o e).lt
theorem HOk.fresh (x:HOk P w H h) (e:h.objs.size<=a):H a=none:=by
 cases q:H a with
 | none=>rfl
 | some u=>exact absurd (aM (x.lt q) e) (dl _)
theorem HOk.kept (x:HOk P w H h) (k:∀ b u,h.get? b=some u->h'.get? b=some u):HOk P w H h':=fun a o e =>
 (x a o e).stay (fun b u _ q=>k b u q) (fun _ q=>q) fun _ _ q=>q
theorem HOk.laid (x:HOk P w H h) (k:∀ b u,h.get? b=some u->h'.get? b=some u) (hp:h.objs.size<=a) (new:ObjOk P w (upd H a o) h' a o):HOk P w (upd H a o) h':=fun b u e=>by
 have hn:=x.fresh hp;by_cases hb:b=a
 . subst hb;rw [aq] at e;cases e;exact new
 . rw [aR hb] at e;exact (x b u e).stay (fun c v _ q=>k c v q) (fun c q=>by rw [aR (dc q hn)];exact q) fun c xs q=>by rw [aR (dc q hn)];exact q
end
def Rd (H:Hp) (a:Addr) (u:HO):Prop:=H a=some u\/∃ o,H a=some (.frz o u)
theorem Rd.ok {P:Program} {w:World} {H:Hp} {h:Heap} {a:Addr} {u:HO} (r:Rd H a u) (x:HOk P w H h):ObjOk P w H h a u:=by
 rcases r with r|⟨o,r⟩
 . exact x a u r
 . obtain ⟨_,q⟩:=x a _ r;exact q
def Mut:Option HO->Prop
 | some (.lst _)=>True
 | some (.dK _)=>True
 | some (.dT _)=>True
 | some (.set _ _)=>True
 | some (.ins _ _ _)=>True
 | some (.ext _)=>True
 | _=>False
section
variable {P:Program} {w:World} {H:Hp} {h h':Heap} {x e:Addr} {o':HO}
theorem HOk.write (ok:HOk P w H h) (mu:Mut (H x)) (he:e=x\/H e=some (.own x)) (k:∀ b u,b≠e->h.get? b=some u->h'.get? b=some u) (heo:∃ u,h'.get? e=some u)
   (new:ObjOk P w (upd H x o') h' x o'):HOk P w (upd H x o') h':=fun b u q=>by
 have nown:∀ c y,H c=some (.own y)->c≠x:=fun c y r z=>by subst z;rw [r] at mu;exact mu
 have ntup:∀ c xs,H c=some (.tup xs)->c≠x:=fun c xs r z=>by subst z;rw [r] at mu;exact mu
 by_cases hb:b=x
 . subst hb;rw [aq] at q;cases q;exact new
 . rw [aR hb] at q;by_cases hbe:b=e
   . have q':H b=some (.own x):=by
       rcases he with z|z
       . exact absurd (hbe.trans z) hb
       . rw [hbe];exact z
     rw [q] at q';cases q';obtain ⟨v,hv⟩:=heo;exact ⟨v,by rw [hbe];exact hv⟩
   . refine (ok b u q).stay (fun c v hc r=>k c v ?_ r) (fun c r=>by rw [aR (nown c b r)];exact r) fun c xs r=>by rw [aR (ntup c xs r)];exact r
     rcases hc with rfl|hc
     . exact hbe
     . rintro rfl;rcases he with z|z
       . exact nown c b hc z
       . rw [hc] at z;cases z;exact hb rfl
end
structure Un (fs ex:List Addr) (H H':Hp) (h h':Heap):Prop where
 keep:∀ b o,h.get? b=some o->H b=none->b ∉ fs->b ∉ ex->h'.get? b=some o
 slot:∀ b o,h.get? b=some o->H b=none->b∈fs->b ∉ ex->∃ sl,h'.get? b=some { o with slots:=sl }
 free:∀ b o,h.get? b=some o->H b=none->b ∉ ex->H' b=none
 there:∀ b o,h.get? b=some o->b ∉ ex->∃ o',h'.get? b=some o'
 tups:∀ b xs,H b=some (.tup xs)->H' b=some (.tup xs)
 frzs:∀ b o u,H b=some (.frz o u)->H' b=some (.frz o u)
 tbls:∀ b ps,H b=some (.tbl ps)->∃ more,H' b=some (.tbl (ps++more))
section
variable {fs fs' ex ex':List Addr} {H H1 H2:Hp} {h h1 h2 h':Heap} {a x e:Addr} {o:HO}
theorem Un.any (u:Un fs ex H H1 h h1) {b:Addr} {ob:Obj} (q:h.get? b=some ob) (n:H b=none) (hx:b ∉ ex):∃ sl,h1.get? b=some { ob with slots:=sl }:=by
 by_cases hb:b∈fs
 . exact u.slot b ob q n hb hx
 . exact ⟨ob.slots,u.keep b ob q n hb hx⟩
theorem Un.kept (k:∀ b u,h.get? b=some u->h'.get? b=some u):Un fs ex H H h h' :=
 ⟨fun b ob q _ _ _=>k b ob q,fun b ob q _ _ _=>⟨ob.slots,k b ob q⟩,fun _ _ _ n _=>n,fun b ob q _=>⟨ob,k b ob q⟩,fun _ _ q=>q,fun _ _ _ q=>q,fun _ ps q=>⟨#[],by rw [q];simp⟩⟩
theorem Un.refl:Un fs ex H H h h:=Un.kept fun _ _ q=>q
theorem Un.laid (k:∀ b u,h.get? b=some u->h'.get? b=some u) (hp:h.objs.size<=a) (hn:H a=none):Un fs ex H (upd H a o) h h' where
 keep:=fun b u q _ _ _=>k b u q
 slot:=fun b u q _ _ _=>⟨u.slots,k b u q⟩
 free:=fun b u q n _=>by rw [aR (aE (aM (aw q) hp))];exact n
 there:=fun b u q _=>⟨u,k b u q⟩
 tups:=fun b xs q=>by rw [aR (dc q hn)];exact q
 frzs:=fun b u xs q=>by rw [aR (dc q hn)];exact q
 tbls:=fun b ps q=>⟨#[],by rw [aR (dc q hn),q];simp⟩
theorem Un.write (mu:Mut (H x)) (he:e=x\/H e=some (.own x)) (k:∀ b u,b≠e->h.get? b=some u->h'.get? b=some u) (heo:∃ u,h'.get? e=some u):Un fs ex H (upd H x o) h h':=by
 have hx:∀ b,H b=none->b≠x:=fun b n z=>by subst z;rw [n] at mu;exact mu
 have hb:∀ b,H b=none->b≠e:=fun b n z=>by
   subst z;rcases he with r|r
   . exact hx b n r
   . rw [n] at r;cases r
 have hm:∀ b u,H b=some u->¬ Mut (some u)->b≠x:=fun b u q nm z=>by subst z;rw [q] at mu;exact nm mu
 refine ⟨fun b u q n _ _=>k b u (hb b n) q,fun b u q n _ _=>⟨u.slots,k b u (hb b n) q⟩,fun b u q n _=>by rw [aR (hx b n)];exact n,fun b u q _=>?_,
   fun b xs q=>by rw [aR (hm b _ q fun z=>z)];exact q,fun b u xs q=>by rw [aR (hm b _ q fun z=>z)];exact q,fun b ps q=>⟨#[],by rw [aR (hm b _ q fun z=>z),q];simp⟩⟩
 by_cases hbe:b=e
 . subst hbe;exact heo
 . exact ⟨u,k b u hbe q⟩
end
def trk (h:Heap) (H:Hp):List Addr:=(List.range h.objs.size).filter fun a=>(H a).isSome
def Du (h:Heap) (H:Hp):Heap:=PySem.W.hideAll h (trk h H)
theorem Wt (h:Heap) (H:Hp):(Du h H).objs.size=h.objs.size:=PySem.W.hideAll_size _ _
theorem Yr {h:Heap} {H:Hp} {b:Addr} {o:Obj} (e:h.get? b=some o) (n:H b=none):(Du h H).get? b=some o :=
 PySem.W.hideAll_get _ e fun hm=>by
   have q:(H b).isSome=true:=(d9.mp hm).2;rw [n] at q;simp at q
theorem bZa {h:Heap} {H:Hp} {b:Addr} {o:Obj} (e:(Du h H).get? b=some o):h.get? b=some o/\H b=none:=by
 have e':h.get? b=some o:=PySem.W.of_hideAll (trk h H) e;refine ⟨e',?_⟩;cases q:H b with
 | none=>rfl
 | some x =>
   have hm:b∈trk h H:=d9.mpr ⟨cN.mpr (aw e'),by simp [q]⟩;have z:(Du h H).get? b=none:=PySem.W.hideAll_none (trk h H) hm;rw [z] at e;cases e
def b9a (g h:Heap) (L:Addr):List (Addr × Obj):=(List.range h.objs.size).filterMap fun a=>if a=L\/(g.get? a).isSome=true then none else (h.get? a).map fun o=>(a,o)
def gm (g h:Heap) (L d:Addr):List (Addr × Obj):=(b9a g h L).filter fun p=>decide (p.1≠d)
end L2
namespace L2
open PySem PySem.Spec PyProof.Rows
structure Mod (K:PySem.W.Frag) (mg:Str->Option Value) (base:Heap):Prop where
 kin:K.In base
 glob:base.Ns mainGlobals mg
 blt:∃ mb,base.Ns builtinsNs mb/\∀ x:Str,x≠"__name__"->mb x=bootBuiltins x
 nolimit:base.NoLimit
structure Cx where
 prog:Program
 w:World
 K:PySem.W.Frag
 mg:Str->Option Value
 base:Heap
 A:Around
 N:List Str
 s₀:Shared
 H₀:Hp
 env:Env
 outer:List Env
 stack:List Env
 ex:List Addr
 fn:Str->Bool
 calm:Bool
 pn:List (Addr × Obj)
 xe:Value->Shared->Prop
def frs (l:List Env):List Addr:=l.filterMap (·.frame)
abbrev Cx.fs (X:Cx):List Addr:=frs X.outer
def Vis (sc:Scope) (x:Str):Prop:=sc.names.lookup x=some .local\/sc.names.lookup x=some .cell\/sc.names.lookup x=some .free
def Loc (sc:Scope) (x:Str):Prop:=sc.names.lookup x=some .local\/sc.names.lookup x=some .cell
def e1a (env:Env) (h:Heap) (m:Str->Option Value) (x:Str) (u:Value):Prop :=
 (env.kindOf x=some .local/\m x=some u)\/((env.kindOf x=some .cell\/env.kindOf x=some .free)/\∃ c,env.cells.lookup x=some c/\h.IsCell c (some u))
structure Cx.Ok (X:Cx):Prop where
 mod:Mod X.K X.mg X.base
 kind:X.env.scope.kind=.function
 glob:X.env.globals=mainGlobals
 blt:X.env.builtins=builtinsNs
 above:X.s₀.heap.objs.size<=X.env.locals
 inj:∀ x y c,X.env.cells.lookup x=some c->X.env.cells.lookup y=some c->x=y
 has:∀ x,(X.env.kindOf x=some .cell\/X.env.kindOf x=some .free)->∃ c,X.env.cells.lookup x=some c
 cab:∀ x c,X.fn x=true->X.env.cells.lookup x=some c->X.s₀.heap.objs.size<=c
 hd:X.calm=true->X.A.handled=none
 frames:X.A.frames=some X.stack
 stk:X.stack=X.outer\/(X.stack=X.env::X.outer/\X.env.frame=some X.env.locals)
 exf:∀ b∈X.ex,b≠X.env.locals/\∀ x c,X.env.cells.lookup x=some c->c≠b
 bs:∀ b o,X.base.get? b=some o->X.s₀.heap.get? b=some o/\X.H₀ b=none
 bsz:X.base.objs.size<=X.s₀.heap.objs.size
 noex:∀ b o,X.base.get? b=some o->b ∉ X.ex
 exfs:∀ b∈X.ex,b ∉ X.fs
 funs:X.s₀.heap.FunFrames X.base X.outer
 frf:∀ b∈X.fs,X.H₀ b=none
structure Inv (X:Cx) (pins:List (Addr × Obj)) (σ:List (Option V)) (H:Hp) (s:Shared):Prop where
 ok:X.Ok
 os:s.os=X.s₀.os
 bare:AllBare s.gens
 base:Un X.fs X.ex X.H₀ H X.s₀.heap s.heap
 loc:∃ m,s.heap.Ns X.env.locals m/\∀ (i:Nat) (x:Str) (v:V),X.N[i]?=some x->σ[i]?=some (some v)->Vis X.env.scope x->∃ u,RelV v u/\e1a X.env s.heap m x u
 cell:∀ x c,X.env.cells.lookup x=some c->∃ v,s.heap.IsCell c v
 free:H X.env.locals=none
 freeC:∀ x c,X.env.cells.lookup x=some c->H c=none
 pin:∀ p∈X.pn++pins,s.heap.get? p.1=some p.2/\H p.1=none/\p.1≠X.env.locals/\p.1 ∉ X.fs/\∀ v,p.2.data≠.cell v
 hok:HOk X.prog X.w H s.heap
 len:σ.length=X.N.length
section
variable {X:Cx} {pins:List (Addr × Obj)} {σ:List (Option V)} {H H':Hp} {s:Shared} {h':Heap}
theorem Cx.Ok.nofr (ok:X.Ok) {b:Addr} {o:Obj} (e:X.base.get? b=some o):b ∉ X.fs:=fun hb=>by
 have:=(ok.funs.mem hb).1;rw [e] at this;cases this
theorem Inv.bs (I:Inv X pins σ H s):∀ b o,X.base.get? b=some o->s.heap.get? b=some o/\H b=none:=fun b o e =>
 ⟨I.base.keep b o (I.ok.bs b o e).1 (I.ok.bs b o e).2 (I.ok.nofr e) (I.ok.noex b o e),I.base.free b o (I.ok.bs b o e).1 (I.ok.bs b o e).2 (I.ok.noex b o e)⟩
theorem Inv.bk (I:Inv X pins σ H s):∀ b o,X.base.get? b=some o->s.heap.get? b=some o:=fun b o e=>(I.bs b o e).1
theorem Inv.mod (I:Inv X pins σ H s):Mod X.K X.mg X.base:=I.ok.mod
theorem Inv.kIn (I:Inv X pins σ H s):X.K.In s.heap:=I.ok.mod.kin.keeps I.bk
theorem Inv.lt (I:Inv X pins σ H s):X.env.locals<s.heap.objs.size:=let ⟨_,hn,_⟩:=I.loc;hn.lt
theorem Inv.sz (I:Inv X pins σ H s):X.s₀.heap.objs.size<=s.heap.objs.size:=bP I.ok.above (jr I.lt)
theorem Inv.nofs (I:Inv X pins σ H s) {a:Addr} (h:s.heap.objs.size<=a):a ∉ X.fs:=fun hb=>by
 obtain ⟨_,o,ho,_⟩:=I.ok.funs.mem hb;exact absurd (aM (aw ho) (bP I.sz h)) (dl _)
theorem Inv.cne (I:Inv X pins σ H s):∀ x c,X.env.cells.lookup x=some c->c≠X.env.locals:=fun x c e z=>by
 obtain ⟨v,o,ho,hd⟩:=I.cell x c e;obtain ⟨m,⟨o',es,ep,ho',hd',_⟩,_⟩:=I.loc;rw [z,ho'] at ho;cases ho;rw [hd'] at hd;cases hd
theorem Inv.funs (I:Inv X pins σ H s):s.heap.FunFrames X.base X.outer:=by
 have all:∀ (l:List Env),(∀ b∈frs l,b∈X.fs)->X.s₀.heap.FunFrames X.base l->s.heap.FunFrames X.base l:=by
   intro l
   induction l with
   | nil=>intro _ _;trivial
   | cons env r ih =>
     intro hs hl;obtain ⟨hk,⟨L,o,hf,hn,ho,hd⟩,hr⟩:=hl;have hL:L∈X.fs:=hs L (by unfold frs;rw [iG,hf];exact aO);obtain ⟨sl,e⟩:=I.base.slot L o ho (I.ok.frf L hL) hL fun z=>I.ok.exfs L z hL;exact ⟨hk,⟨L,_,hf,hn,e,hd⟩,ih (fun b hb=>hs b (by unfold frs;rw [iG,hf];exact aL _ hb)) hr⟩
 exact all X.outer (fun _ hb=>hb) I.ok.funs
theorem Inv.stack (I:Inv X pins σ H s):s.heap.FunFrames X.base X.stack:=by
 rcases I.ok.stk with e|⟨e,hf⟩
 . rw [e];exact I.funs
 . rw [e];obtain ⟨m,hn,_⟩:=I.loc;refine .cons (by rw [I.ok.kind];decide) hf hn ?_ I.funs;exact fW (bP I.ok.bsz I.ok.above)
theorem Inv.stkSub (I:Inv X pins σ H s):∀ b∈frs X.stack,b∈X.env.locals::X.fs:=fun b hb=>by
 rcases I.ok.stk with e|⟨e,hf⟩
 . rw [e] at hb;exact aL _ hb
 . rw [e] at hb;unfold frs at hb;rw [iG,hf] at hb;exact hb
theorem Inv.stkFree (I:Inv X pins σ H s):∀ b∈frs X.stack,H b=none:=fun b hb=>by
 rcases az.mp (I.stkSub b hb) with e|hb
 . rw [e];exact I.free
 . obtain ⟨_,o,ho,_⟩:=I.ok.funs.mem hb;exact I.base.free b o ho (I.ok.frf b hb) fun z=>I.ok.exfs b z hb
theorem Inv.step {g':Array GenState} {t':Nat} {d':Drawn} {ch:List Addr} (I:Inv X pins σ H s)
   (hch:∀ b∈ch,(b∈X.ex\/X.s₀.heap.objs.size<=b)/\b≠X.env.locals/\(∀ x c,X.env.cells.lookup x=some c->c≠b)/\∀ p∈X.pn++pins,p.1≠b)
   (keep:∀ b o,b≠X.env.locals->b ∉ X.fs->b ∉ ch->s.heap.get? b=some o->H b=none->h'.get? b=some o)
   (slot:∀ b o,b≠X.env.locals->b∈X.fs->b ∉ ch->s.heap.get? b=some o->H b=none->∃ sl,h'.get? b=some { o with slots:=sl }) (free:∀ b o,b ∉ ch->s.heap.get? b=some o->H b=none->H' b=none)
   (there:∀ b o,b ∉ ch->s.heap.get? b=some o->∃ o',h'.get? b=some o')
   (tups:∀ b xs,H b=some (.tup xs)->H' b=some (.tup xs)) (frzs:∀ b o u,H b=some (.frz o u)->H' b=some (.frz o u)) (tbls:∀ b ps,H b=some (.tbl ps)->∃ more,H' b=some (.tbl (ps++more)))
   (ns:∀ m,s.heap.Ns X.env.locals m->h'.Ns X.env.locals m) (hok:HOk X.prog X.w H' h') (hg:AllBare g') :
   Inv X pins σ H' { s with heap:=h',gens:=g',drawn:=d',toks:=t' }:=by
 have neL:∀ b o,X.s₀.heap.get? b=some o->b≠X.env.locals:=fun b o e=>aE (aM (aw e) I.ok.above);have neC:∀ b o,X.s₀.heap.get? b=some o->b ∉ X.ex->b ∉ ch:=fun b o e hx hb=>by
   rcases (hch b hb).1 with z|z
   . exact hx z
   . exact absurd (aM (aw e) z) (dl _)
 have cellK:∀ x c,X.env.cells.lookup x=some c->∀ v,s.heap.IsCell c v->h'.IsCell c v:=fun x c e v ⟨o,ho,hd⟩=>by
   have nch:c ∉ ch:=fun z=>(hch c z).2.2.1 x c e rfl;by_cases hc:c∈X.fs
   . obtain ⟨sl,q⟩:=slot c o (I.cne x c e) hc nch ho (I.freeC x c e);exact ⟨_,q,hd⟩
   . exact ⟨o,keep c o (I.cne x c e) hc nch ho (I.freeC x c e),hd⟩
 refine ⟨I.ok,I.os,hg,⟨fun b o e n hb hx=>?_,fun b o e n hb hx=>?_,fun b o e n hx=>?_,fun b o e hx=>?_,fun b xs e=>tups b xs (I.base.tups b xs e),fun b o xs e=>frzs b o xs (I.base.frzs b o xs e),fun b ps e=>?_⟩,?_,fun x c e=>?_,?_,fun x c e=>?_,fun p hp=>?_,hok,I.len⟩
 . exact keep b o (neL b o e) hb (neC b o e hx) (I.base.keep b o e n hb hx) (I.base.free b o e n hx)
 . obtain ⟨sl,e1⟩:=I.base.slot b o e n hb hx;obtain ⟨sl',e2⟩:=slot b _ (neL b o e) hb (neC b o e hx) e1 (I.base.free b o e n hx);exact ⟨sl',e2⟩
 . obtain ⟨o',e1⟩:=I.base.there b o e hx;exact free b o' (neC b o e hx) e1 (I.base.free b o e n hx)
 . obtain ⟨o',e1⟩:=I.base.there b o e hx;exact there b o' (neC b o e hx) e1
 . obtain ⟨m1,e1⟩:=I.base.tbls b ps e;obtain ⟨m2,e2⟩:=tbls b _ e1;exact ⟨m1++m2,by rw [e2,Array.append_assoc]⟩
 . obtain ⟨m,hn,hl⟩:=I.loc;refine ⟨m,ns m hn,fun i x v e1 e2 e3=>?_⟩;obtain ⟨u,r,l⟩:=hl i x v e1 e2 e3;refine ⟨u,r,?_⟩;rcases l with l|⟨k,c,e,z⟩
   . exact .inl l
   . exact .inr ⟨k,c,e,cellK x c e _ z⟩
 . obtain ⟨v,z⟩:=I.cell x c e;exact ⟨v,cellK x c e v z⟩
 . obtain ⟨m,⟨o,_,_,ho,_⟩,_⟩:=I.loc;exact free _ o (fun z=>(hch _ z).2.1 rfl) ho I.free
 . obtain ⟨v,o,ho,hd⟩:=I.cell x c e;exact free c o (fun z=>(hch c z).2.2.1 x c e rfl) ho (I.freeC x c e)
 . obtain ⟨e,n,ne,nf,d⟩:=I.pin p hp;have nch:p.1 ∉ ch:=fun z=>(hch p.1 z).2.2.2 p hp rfl;exact ⟨keep p.1 p.2 ne nf nch e n,free p.1 p.2 nch e n,ne,nf,d⟩
theorem Inv.un {t':Nat} (I:Inv X pins σ H s) (u:Un X.fs [] H H' s.heap h') (hok:HOk X.prog X.w H' h'):Inv X pins σ H' { s with heap:=h',toks:=t' }:=by
 obtain ⟨m,⟨o,es,ep,ho,r⟩,_⟩:=id I.loc;obtain ⟨sl,hL⟩:=u.any ho I.free (by simp);exact I.step (g':=s.gens) (d':=s.drawn) (ch:=[]) (fun _ z=>nomatch z) (fun b o _ hb _ e n=>u.keep b o e n hb (by simp)) (fun b o _ hb _ e n=>u.slot b o e n hb (by simp)) (fun b o _ e n=>u.free b o e n (by simp)) (fun b o _ e=>u.there b o e (by simp)) u.tups u.frzs u.tbls (fun m' hm=>by
   obtain ⟨o',es',ep',ho',r'⟩:=hm;rw [ho] at ho';cases ho';exact ⟨_,es',ep',hL,r'⟩) hok I.bare
theorem Inv.call {g':Array GenState} {t':Nat} {d':Drawn} {ch:List Addr} (I:Inv X pins σ H s) (u:Un (frs X.stack) ch H H' s.heap h') (hok:HOk X.prog X.w H' h') (hg:AllBare g')
   (hch:∀ b∈ch,(b∈X.ex\/X.s₀.heap.objs.size<=b)/\b≠X.env.locals/\(∀ x c,X.env.cells.lookup x=some c->c≠b)/\∀ p∈X.pn++pins,p.1≠b) :
   Inv X pins σ H' { s with heap:=h',gens:=g',drawn:=d',toks:=t' }:=by
 obtain ⟨m,⟨o,es,ep,ho,r⟩,_⟩:=id I.loc;obtain ⟨sl,hL⟩:=u.any ho I.free fun z=>(hch _ z).2.1 rfl;exact I.step (ch:=ch) hch (fun b o hL hb hc e n=>u.keep b o e n (fun z=>(az.mp (I.stkSub b z)).elim hL hb) hc) (fun b o _ _ hc e n=>u.any e n hc) (fun b o hc e n=>u.free b o e n hc) (fun b o hc e=>u.there b o e hc) u.tups u.frzs u.tbls (fun m' hm=>by
   obtain ⟨o',es',ep',ho',r'⟩:=hm;rw [ho] at ho';cases ho';exact ⟨_,es',ep',hL,r'⟩) hok hg
theorem Inv.turned {t':Nat} {it:Addr} (I:Inv X pins σ H s) (k:∀ b o,b≠it->s.heap.get? b=some o->h'.get? b=some o) (hn:H it=none) (hL:it≠X.env.locals)
   (h1:it∈X.ex\/X.s₀.heap.objs.size<=it) (h2:∀ x c,X.env.cells.lookup x=some c->c≠it) (h3:∀ p∈X.pn++pins,p.1≠it):Inv X pins σ H { s with heap:=h',toks:=t' }:=by
 have nit:∀ b u,H b=some u->b≠it:=fun b u e z=>by rw [z,hn] at e;cases e
 refine I.step (g':=s.gens) (d':=s.drawn) (ch:=[it]) (fun b hb=>?_) (fun b o _ _ hc e _=>k b o (fun z=>hc (by simp [z])) e) (fun b o _ _ hc e _=>⟨o.slots,k b o (fun z=>hc (by simp [z])) e⟩) (fun _ _ _ _ n=>n)
   (fun b o hc e=>⟨o,k b o (fun z=>hc (by simp [z])) e⟩) (fun _ _ e=>e) (fun _ _ _ e=>e) (fun b ps e=>⟨#[],by rw [e];simp⟩) (fun m hm=>?_) (fun b u e=>?_) I.bare
 . have e:b=it:=by simpa using hb
   subst e;exact ⟨h1,hL,h2,h3⟩
 . obtain ⟨o,es,ep,ho,r⟩:=hm;exact ⟨o,es,ep,k _ o (Ne.symm hL) ho,r⟩
 . refine (I.hok b u e).stay (fun c v hc q=>k c v ?_ q) (fun _ q=>q) fun _ _ q=>q;rcases hc with z|z
   . rw [z];exact nit b u e
   . exact nit c _ z
theorem Inv.tok (I:Inv X pins σ H s) (t:Nat):Inv X pins σ H { s with toks:=t }:=I.un (h':=s.heap) (t':=t) Un.refl I.hok
theorem Inv.kept {t':Nat} (I:Inv X pins σ H s) (k:∀ b u,s.heap.get? b=some u->h'.get? b=some u):Inv X pins σ H { s with heap:=h',toks:=t' }:=I.un (Un.kept k) (I.hok.kept k)
theorem Inv.laid {a:Addr} {o:HO} {t':Nat} (I:Inv X pins σ H s) (k:∀ b u,s.heap.get? b=some u->h'.get? b=some u) (hp:s.heap.objs.size<=a) (new:ObjOk X.prog X.w (upd H a o) h' a o) :
   Inv X pins σ (upd H a o) { s with heap:=h',toks:=t' }:=I.un (Un.laid k hp (I.hok.fresh hp)) (I.hok.laid k hp new)
theorem Inv.write {x e:Addr} {o:HO} {t':Nat} (I:Inv X pins σ H s) (mu:Mut (H x)) (he:e=x\/H e=some (.own x)) (k:∀ b u,b≠e->s.heap.get? b=some u->h'.get? b=some u) (heo:∃ u,h'.get? e=some u)
   (new:ObjOk X.prog X.w (upd H x o) h' x o):Inv X pins σ (upd H x o) { s with heap:=h',toks:=t' }:=I.un (Un.write mu he k heo) (I.hok.write mu he k heo new)
theorem Inv.pins_of {pins':List (Addr × Obj)} (I:Inv X pins σ H s) (h:∀ p∈pins',s.heap.get? p.1=some p.2/\H p.1=none/\p.1≠X.env.locals/\p.1 ∉ X.fs/\∀ v,p.2.data≠.cell v):Inv X pins' σ H s :=
 ⟨I.ok,I.os,I.bare,I.base,I.loc,I.cell,I.free,I.freeC,fun p hp=>(aY.mp hp).elim (fun z=>I.pin p (bp _ z)) (h p),I.hok,I.len⟩
theorem QC {N:List Str} (hN:N.Nodup) {i j:Nat} {x:Str} (a:N[i]?=some x) (b:N[j]?=some x):i=j:=by
 obtain ⟨h1,e1⟩:=aB.mp a;obtain ⟨h2,e2⟩:=aB.mp b;exact (List.getElem_inj hN).mp (e1.trans e2.symm)
theorem Np {M:Model} {A:Around} {E:Value->Shared->Prop} {i:Nat} {x:Str} {v:V} {u:Value} {Q:Unit->Shared->Prop} (I:Inv X pins σ H s) (hN:X.N.Nodup) (hi:X.N[i]?=some x) (hx:Loc X.env.scope x) (r:RelV v u)
   (h:∀ s',Inv X pins (σ.set i (some v)) H s'->(∃ a,Heap.SameBut a s.heap s'.heap/\(a=X.env.locals\/X.env.cells.lookup x=some a))->Q () s') (hf:X.fn x=true\/X.env.scope.names.lookup x=some .local:=by first|exact .inl rfl|exact .inr rfl|assumption):wpAny M A (storeName X.env x u) Q E s:=by
 obtain ⟨m,hn,hl⟩:=id I.loc;have hcls:(X.env.scope.kind == .class || (X.env.scope.kind == .module && X.env.locals != X.env.globals))=false:=by rw [I.ok.kind];rfl
 have hiσ:i<σ.length:=by rw [I.len];exact (aB.mp hi).1
 have cne:=I.cne;have tracked:∀ {a:Addr} {h':Heap},(∃ o,s.heap.get? a=some o/\H a=none)->Heap.SameBut a s.heap h'->HOk X.prog X.w H h':=fun {a h'} ha hs b ob e=>by
   obtain ⟨_,_,hfree⟩:=ha;refine (I.hok b ob e).stay (fun c w' hc q=>(hs.2 c ?_).trans q) (fun _ q=>q) fun _ _ q=>q;rintro rfl;rcases hc with rfl|hc
   . rw [hfree] at e;cases e
   . rw [hfree] at hc;cases hc
 rcases hx with hk|hk
 . refine wpAny_storeName_local hk hn (fun h' hn' hs=>?_) hcls;obtain ⟨oL,_,_,hoL,_⟩:=id hn;refine h _ ⟨I.ok,I.os,I.bare,⟨fun b o e n hb hx=>?_,fun b o e n hb hx=>?_,I.base.free,fun b o e hx=>?_,I.base.tups,I.base.frzs,I.base.tbls⟩,⟨_,hn',fun j y v' e1 e2 e3=>?_⟩,fun y c e=>?_,I.free,I.freeC,fun p hp=>?_,tracked ⟨oL,hoL,I.free⟩ hs,by simpa using I.len⟩ ⟨_,hs,.inl rfl⟩
   . exact (hs.2 b (aE (aM (aw e) I.ok.above))).trans (I.base.keep b o e n hb hx)
   . obtain ⟨sl,e1⟩:=I.base.slot b o e n hb hx;exact ⟨sl,(hs.2 b (aE (aM (aw e) I.ok.above))).trans e1⟩
   . obtain ⟨o',e1⟩:=I.base.there b o e hx;exact ⟨o',(hs.2 b (aE (aM (aw e) I.ok.above))).trans e1⟩
   . by_cases hj:j=i
     . subst hj;rw [hi] at e1;cases e1;rw [o0 hiσ] at e2;cases e2;exact ⟨u,r,.inl ⟨hk,by simp⟩⟩
     . rw [kI (Ne.symm hj)] at e2;obtain ⟨u',r',q⟩:=hl j y v' e1 e2 e3;refine ⟨u',r',?_⟩;rcases q with ⟨k,e⟩|⟨k,c,e,z⟩
       . refine .inl ⟨k,?_⟩;have:y≠x:=fun e=>hj (QC hN e1 (e ▸ hi));simp [this,e]
       . exact .inr ⟨k,c,e,z.sameBut hs (cne y c e)⟩
   . obtain ⟨w',z⟩:=I.cell y c e;exact ⟨w',z.sameBut hs (cne y c e)⟩
   . obtain ⟨e,n,ne,nf,d⟩:=I.pin p hp;exact ⟨(hs.2 p.1 ne).trans e,n,ne,nf,d⟩
 . have hfn:X.fn x=true:=by
     rcases hf with z|z
     . exact z
     . rw [z] at hk;cases hk
   obtain ⟨c,hc⟩:=I.ok.has x (.inl hk);obtain ⟨w',z⟩:=I.cell x c hc;refine wpAny_storeName_cell I.ok.kind hk hc z (fun h' hc' hs=>?_);obtain ⟨oc,hoc,hocd⟩:=id z;refine h { s with heap:=h' } ⟨I.ok,I.os,I.bare,⟨fun b o e n hb hx=>?_,fun b o e n hb hx=>?_,I.base.free,fun b o e hx=>?_,I.base.tups,I.base.frzs,I.base.tbls⟩,⟨m,hn.sameBut hs (Ne.symm (cne x c hc)),fun j y v' e1 e2 e3=>?_⟩,fun y c' e=>?_,I.free,I.freeC,fun p hp=>?_,tracked ⟨oc,hoc,I.freeC x c hc⟩ hs,by simpa using I.len⟩ ⟨c,hs,.inr hc⟩
   . exact (hs.2 b (aE (aM (aw e) (I.ok.cab x c hfn hc)))).trans (I.base.keep b o e n hb hx)
   . obtain ⟨sl,e1⟩:=I.base.slot b o e n hb hx;exact ⟨sl,(hs.2 b (aE (aM (aw e) (I.ok.cab x c hfn hc)))).trans e1⟩
   . obtain ⟨o',e1⟩:=I.base.there b o e hx;exact ⟨o',(hs.2 b (aE (aM (aw e) (I.ok.cab x c hfn hc)))).trans e1⟩
   . by_cases hj:j=i
     . subst hj;rw [hi] at e1;cases e1;rw [o0 hiσ] at e2;cases e2;exact ⟨u,r,.inr ⟨.inl hk,c,hc,hc'⟩⟩
     . rw [kI (Ne.symm hj)] at e2;obtain ⟨u',r',q⟩:=hl j y v' e1 e2 e3;refine ⟨u',r',?_⟩;rcases q with q|⟨k,c',e,z'⟩
       . exact .inl q
       . refine .inr ⟨k,c',e,z'.sameBut hs ?_⟩;rintro rfl;exact hj (QC hN e1 (I.ok.inj _ _ _ e hc ▸ hi))
   . by_cases hcc:c'=c
     . subst hcc;exact ⟨_,hc'⟩
     . obtain ⟨w2,z2⟩:=I.cell y c' e;exact ⟨w2,z2.sameBut hs hcc⟩
   . obtain ⟨e,n,ne,nf,d⟩:=I.pin p hp;refine ⟨(hs.2 p.1 ?_).trans e,n,ne,nf,d⟩;intro q;rw [q,hoc] at e;have q':oc=p.2:=bh e;exact d w' (by rw [<- q'];exact hocd)
theorem IB {M:Model} {A:Around} {E:Value->Shared->Prop} {i:Nat} {x:Str} {v:V} {u:Value} {Q:Unit->Shared->Prop} (I:Inv X pins σ H s) (hN:X.N.Nodup) (hi:X.N[i]?=some x) (hx:Loc X.env.scope x) (r:RelV v u)
   (h:∀ s',Inv X pins (σ.set i (some v)) H s'->Q () s') (hf:X.fn x=true\/X.env.scope.names.lookup x=some .local:=by first|exact .inl rfl|exact .inr rfl|assumption):wpAny M A (storeName X.env x u) Q E s :=
 Np I hN hi hx r (fun s' I' _=>h s' I') hf
theorem Inv.call' {s':Shared} {ch:List Addr} (I:Inv X pins σ H s) (ho:s'.os=s.os) (u:Un (frs X.stack) ch H H' s.heap s'.heap) (hok:HOk X.prog X.w H' s'.heap) (hg:AllBare s'.gens)
   (hch:∀ b∈ch,(b∈X.ex\/X.s₀.heap.objs.size<=b)/\b≠X.env.locals/\(∀ x c,X.env.cells.lookup x=some c->c≠b)/\∀ p∈X.pn++pins,p.1≠b):Inv X pins σ H' s':=by
 obtain ⟨h',g',d',t',o'⟩:=s';have e:o'=s.os:=ho;subst e;exact I.call (g':=g') (t':=t') (d':=d') u hok hg hch
end
abbrev XK:=Value->Option Addr->Hp->Prop
abbrev St:=List (Option V)
abbrev VK:=V->Hp->Prop
abbrev TE:=St->Hp->VK->Prop
abbrev TT:=St->Hp->(Bool->Hp->Prop)->Prop
abbrev TA:=St->Hp->(List V->Hp->Prop)->Prop
structure Ends where
 nx:St->Hp->Prop
 rt:VK
 bk:St->Hp->Prop:=fun _ _=>False
 ct:St->Hp->Prop:=fun _ _=>False
abbrev TS:=Ends->St->Hp->Prop
def EP (X:Cx) (pins:List (Addr × Obj)) (σ:St) (Q:VK) (u:Value) (s':Shared):Prop:=∃ v H',Inv X pins σ H' s'/\RelV v u/\Q v H'
def TP (X:Cx) (pins:List (Addr × Obj)) (σ:St) (Q:Bool->Hp->Prop) (b:Bool) (s':Shared):Prop:=∃ H',Inv X pins σ H' s'/\Q b H'
def AP (X:Cx) (pins:List (Addr × Obj)) (σ:St) (Q:List V->Hp->Prop) (us:List Value) (s':Shared):Prop:=∃ vs H',Inv X pins σ H' s'/\Vals vs us/\Q vs H'
def SP (X:Cx) (pins:List (Addr × Obj)) (D:Ends) (f:Flow) (s':Shared):Prop :=
 match f with
 | .next=>∃ σ' H',Inv X pins σ' H' s'/\D.nx σ' H'
 | .brk=>∃ σ' H',Inv X pins σ' H' s'/\D.bk σ' H'
 | .cont=>∃ σ' H',Inv X pins σ' H' s'/\D.ct σ' H'
 | .ret u=>∃ v σ' H',Inv X pins σ' H' s'/\RelV v u/\D.rt v H'
def PE (X:Cx) (e:Expr) (t:TE):Prop :=
 ∀ (pins:List (Addr × Obj)) (s:Shared) (σ:St) (H:Hp) (Q:VK),Inv X pins σ H s->t σ H Q->wpAny (model X.prog X.w) X.A (eval e X.env) (EP X pins σ Q) X.xe s
def PT (X:Cx) (e:Expr) (t:TT):Prop :=
 ∀ (pins:List (Addr × Obj)) (s:Shared) (σ:St) (H:Hp) (Q:Bool->Hp->Prop),Inv X pins σ H s->t σ H Q->wpAny (model X.prog X.w) X.A (isTrue e X.env (eval e X.env)) (TP X pins σ Q) X.xe s
def PW (X:Cx) (e:Expr) (t:TT):Prop :=
 ∀ (whole:Sem Value) (pins:List (Addr × Obj)) (s:Shared) (σ:St) (H:Hp) (Q:Bool->Hp->Prop),Inv X pins σ H s->t σ H Q->wpAny (model X.prog X.w) X.A (isTrue e X.env whole) (TP X pins σ Q) X.xe s
theorem PW.pt {X:Cx} {e:Expr} {t:TT} (h:PW X e t):PT X e t:=h _
def PA (X:Cx) (es:List Expr) (t:TA):Prop :=
 ∀ (pos:Pos) (pins:List (Addr × Obj)) (s:Shared) (σ:St) (H:Hp) (Q:List V->Hp->Prop),Inv X pins σ H s->t σ H Q->wpAny (model X.prog X.w) X.A (spliced (backTo pos (starEach es X.env))) (AP X pins σ Q) X.xe s
def PS (X:Cx) (st:Stmt) (t:TS):Prop :=
 ∀ (pins:List (Addr × Obj)) (s:Shared) (σ:St) (H:Hp) (D:Ends),Inv X pins σ H s->t D σ H->wpAny (model X.prog X.w) X.A (exec st X.env) (SP X pins D) X.xe s
def PSs (X:Cx) (st:List Stmt) (t:TS):Prop :=
 ∀ (pins:List (Addr × Obj)) (s:Shared) (σ:St) (H:Hp) (D:Ends),Inv X pins σ H s->t D σ H->wpAny (model X.prog X.w) X.A (execs st X.env) (SP X pins D) X.xe s
theorem thn {α:Type} {t:Sem α} {Q Q':α->Shared->Prop} {M:Model} {A:Around} {E:Value->Shared->Prop} {s:Shared} (h:wpAny M A t Q E s) (hQ:∀ a s,Q a s->Q' a s):wpAny M A t Q' E s:=bg h hQ fun _ _ x=>x
theorem dg {t:Sem Value} {X:Cx} {pins:List (Addr × Obj)} {σ:St} {Q:VK} {Q':Value->Shared->Prop} {M:Model} {A:Around} {E:Value->Shared->Prop} {s:Shared} (h:wpAny M A t (EP X pins σ Q) E s) (hQ:∀ u s v H,Inv X pins σ H s->RelV v u->Q v H->Q' u s):wpAny M A t Q' E s:=thn h fun u s ⟨v,H,I,r,q⟩=>hQ u s v H I r q
theorem zf {t:Sem (List Value)} {X:Cx} {pins:List (Addr × Obj)} {σ:St} {Q:List V->Hp->Prop} {Q':List Value->Shared->Prop} {M:Model} {A:Around} {E:Value->Shared->Prop} {s:Shared} (h:wpAny M A t (AP X pins σ Q) E s) (hQ:∀ u s v H,Inv X pins σ H s->Vals v u->Q v H->Q' u s):wpAny M A t Q' E s:=thn h fun u s ⟨v,H,I,r,q⟩=>hQ u s v H I r q
theorem LV {t:Sem Bool} {X:Cx} {pins:List (Addr × Obj)} {σ:St} {Q:Bool->Hp->Prop} {Q':Bool->Shared->Prop} {M:Model} {A:Around} {E:Value->Shared->Prop} {s:Shared} (h:wpAny M A t (TP X pins σ Q) E s) (hQ:∀ u s H,Inv X pins σ H s->Q u H->Q' u s):wpAny M A t Q' E s:=thn h fun u s ⟨H,I,q⟩=>hQ u s H I q
end L2
namespace L2
open PySem PySem.Spec PyProof.Rows
section
variable {X:Cx}
def LB (i:Nat):TE:=fun σ H Q=>∃ v,σ[i]?=some (some v)/\Q v H
def tC (v:V):TE:=fun _ H Q=>Q v H
theorem PR {i:Nat} {x:Str} {pos:Pos} (hN:X.N[i]?=some x) (hv:Vis X.env.scope x) (hd:(x == ("__debug__":Str))=false:=by decide) (hcd:(x == ("__classdict__":Str))=false:=by decide):PE X (.Name x pos) (LB i):=by
 intro pins s σ H Q I h;obtain ⟨v,e,h⟩:=h;obtain ⟨m,hn,hl⟩:=I.loc;obtain ⟨u,r,l⟩:=hl i x v hN e hv;have fin:EP X pins σ Q u s:=⟨v,H,I,r,h⟩;rcases l with ⟨hk,hm⟩|⟨hk,c,hc,hcell⟩
 . exact wpAny_Name (wpAny_loadName_local I.ok.kind hk hn hm fin) hd
 . rcases hk with hk|hk
   . exact wpAny_Name (wpAny_loadName_cell I.ok.kind hk hc hcell fin) hd
   . exact wpAny_Name (wpAny_loadName_free I.ok.kind hk hc hcell fin hcd) hd
theorem aH {i j pos}:PE X (.Constant (.int i) j pos) (tC (.int i)):=fun _ _ _ H _ I h=>wpAny_Constant_int ⟨.int i,H,I.tok _,⟨_,rfl⟩,h⟩
theorem GD {b j pos}:PE X (.Constant (.bool b) j pos) (tC (.bl b)):=fun _ _ _ H _ I h=>Constant_bool ⟨.bl b,H,I,rfl,h⟩
theorem O1 {j pos}:PE X (.Constant .none j pos) (tC .non):=fun _ _ _ H _ I h=>Constant_none ⟨.non,H,I,rfl,h⟩
theorem wO {x j pos}:PE X (.Constant (.str x) j pos) (tC (.str x)):=fun _ _ _ H _ I h=>Calls.Constant_str ⟨.str x,H,I.tok _,⟨_,rfl⟩,h⟩
def Gl (X:Cx) (x:Str):Prop:=X.env.kindOf x=some .globalImplicit
theorem uF {E:Value->Shared->Prop} {pins:List (Addr × Obj)} {s:Shared} {σ:St} {H:Hp} {x:Str} {u:Value} {pos:Pos} {Q:Value->Shared->Prop} (I:Inv X pins σ H s) (hg:Gl X x) (hm:X.mg x=some u) (h:Q u s)
   (hd:(x == ("__debug__":Str))=false:=by decide):wpAny (model X.prog X.w) X.A (eval (.Name x pos) X.env) Q E s :=
 lW I.ok.kind hg (Calls.loadGlobal_global (by rw [I.ok.glob];exact I.mod.glob.keeps I.bk) hm h) hd
theorem pS {E:Value->Shared->Prop} {pins:List (Addr × Obj)} {s:Shared} {σ:St} {H:Hp} {x:Str} {u:Value} {pos:Pos} {Q:Value->Shared->Prop} (I:Inv X pins σ H s) (hg:Gl X x) (hm:X.mg x=none) (hv:bootBuiltins x=some u) (h:Q u s)
   (hn:x≠"__name__":=by decide) (hd:(x == ("__debug__":Str))=false:=by decide):wpAny (model X.prog X.w) X.A (eval (.Name x pos) X.env) Q E s:=by
 obtain ⟨mb,h1,h2⟩:=I.mod.blt;exact lW I.ok.kind hg (Calls.loadGlobal_builtin (by rw [I.ok.glob];exact I.mod.glob.keeps I.bk) hm (by rw [I.ok.blt];exact h1.keeps I.bk) ((h2 x hn).trans hv) h) hd
theorem b7a {x:Str} {v:V} {u:Value} {pos:Pos} (hg:Gl X x) (hm:X.mg x=some u) (r:RelV v u) (hd:(x == ("__debug__":Str))=false:=by decide):PE X (.Name x pos) (tC v) :=
 fun _ _ _ H _ I h=>uF I hg hm ⟨v,H,I,r,h⟩ hd
theorem Ud {x:Str} {v:V} {u:Value} {pos:Pos} (hg:Gl X x) (hm:X.mg x=none) (hv:bootBuiltins x=some u) (r:RelV v u) (hn:x≠"__name__":=by decide) (hd:(x == ("__debug__":Str))=false:=by decide):PE X (.Name x pos) (tC v) :=
 fun _ _ _ H _ I h=>pS I hg hm hv ⟨v,H,I,r,h⟩ hn hd
variable {a b:Expr} {ta tb:TE} {pos:Pos}
def PC (X:Cx) (op:CmpOp) (a b:Expr) (t:TE):Prop :=
 ∀ (pins:List (Addr × Obj)) (s:Shared) (σ:St) (H:Hp) (Q:VK),Inv X pins σ H s->t σ H Q ->
   wpAny (model X.prog X.w) X.A (eval a X.env) (fun v s₁=>wpAny (model X.prog X.w) X.A (eval b X.env) (fun u s₂=>wpAny (model X.prog X.w) X.A (compareOp op v u) (EP X pins σ Q) X.xe s₂) X.xe s₁) X.xe s
theorem Qq (b:Expr) {op:CmpOp} (h:op≠.In) (h2:op≠.NotIn):behindInMarks op b=false:=by
 have e1:(op == CmpOp.In)=false:=by cases op <;> first|rfl|exact absurd rfl h
 have e2:(op == CmpOp.NotIn)=false:=by cases op <;> first|rfl|exact absurd rfl h2
 cases b <;> simp [behindInMarks,e1,e2]
def dza (ta:TE):TE:=fun σ H Q=>ta σ H fun x H1=>Q (.bl (decide (x=.non))) H1
def Uy (ta:TE):TE:=fun σ H Q=>ta σ H fun x H1=>Q (.bl (!decide (x=.non))) H1
theorem RelV.none_iff {x:V} {v:Value} (r:RelV x v):(v == Value.none)=decide (x=.non):=by
 cases x with
 | non=>cases r;rfl
 | bl _=>cases r;rfl
 | int _=>obtain ⟨t,rfl⟩:=r;rfl
 | str _=>obtain ⟨t,rfl⟩:=r;rfl
 | byt _=>obtain ⟨t,rfl⟩:=r;rfl
 | flt _=>obtain ⟨t,rfl⟩:=r;rfl
 | ref _=>cases r;rfl
 | ty _=>cases r;rfl
theorem Cj {j pos'} (ha:PE X a ta):PC X .IsNot a (.Constant .none j pos') (Uy ta):=by
 intro pins s σ H Q I h;refine dg (ha pins s σ H _ I h) fun v s1 x H1 I1 r1 q1=>?_;exact Constant_none (isnot_none_gen ⟨.bl _,H1,I1,by rw [r1.none_iff];rfl,q1⟩)
def tB (t:TE):TT:=fun σ H Q=>t σ H fun x H1=>∃ c,x=.bl c/\Q c H1
theorem d9a {op:CmpOp} {t:TE} (h:PC X op a b t) (h1:behindInMarks op b=false:=by first|exact Qq _ (by decide) (by decide)|rfl):PE X (.Compare a [op] [b] pos) t:=fun pins s σ H Q I hw=>wpAny_Compare1 (h pins s σ H Q I hw) h1
theorem yN {op:CmpOp} {t:TE} (h:PC X op a b t) (h1:behindInMarks op b=false:=by first|exact Qq _ (by decide) (by decide)|rfl):PT X (.Compare a [op] [b] pos) (tB t):=by
 intro pins s σ H Q I hw;refine wpAny_isTrue_Compare1 (thn (h pins s σ H _ I hw) fun v s1 h1=>thn h1 fun u s2 h2=>thn h2 fun c s3 ⟨x,H1,I1,r1,q1⟩=>?_) h1;obtain ⟨d,rfl,q⟩:=q1;cases r1;exact cw ⟨H1,I1,q⟩
theorem wJ {e:Expr} {t:TE} (h:PE X e t) (he:∀ whole,isTrue e X.env whole=(do let v <- whole;standAt e.pos;holding [v] (truthy v)):=by intro _;rfl):PT X e (tB t):=by
 intro pins s σ H Q I hw;refine isTrue_plain (dg (h pins s σ H _ I hw) fun v s1 x H1 I1 r1 q1=>?_) (he _);obtain ⟨d,rfl,q⟩:=q1;cases r1;exact cw ⟨H1,I1,q⟩
variable {tA tB':TT} {gm:List Expr}
def Yc (t u:TT):TT:=fun σ H Q=>t σ H fun c H1=>if c=true then u σ H1 Q else Q false H1
def tOr (t u:TT):TT:=fun σ H Q=>t σ H fun c H1=>if c=true then Q true H1 else u σ H1 Q
def afa (t:TT):TT:=fun σ H Q=>t σ H fun c H1=>Q (!c) H1
theorem rZ (ha:PT X a tA):PW X (.BoolOp .And [a] pos) tA:=by
 intro wh pins s σ H Q I h;refine isTrue_and (thn (ha pins s σ H Q I h) fun c s1 e=>?_);cases c with
 | true=>exact isTrue_and_nil e
 | false=>exact e
theorem Kx (ha:PT X a tA):PW X (.BoolOp .Or [a] pos) tA:=by
 intro wh pins s σ H Q I h;refine isTrue_or (thn (ha pins s σ H Q I h) fun c s1 e=>?_);cases c with
 | false=>exact isTrue_or_nil e
 | true=>exact e
theorem rK (ha:PT X a tA) (hb:PW X (.BoolOp .And (b::gm) pos) tB'):PW X (.BoolOp .And (a::b::gm) pos) (Yc tA tB'):=by
 intro wh pins s σ H Q I h;refine isTrue_and (LV (ha pins s σ H _ I h) fun c s1 H1 I1 q1=>?_);cases c with
 | true=>exact hb wh pins s1 σ H1 Q I1 q1
 | false=>exact ⟨H1,I1,q1⟩
theorem GM (ha:PT X a tA) (hb:PW X (.BoolOp .Or (b::gm) pos) tB'):PW X (.BoolOp .Or (a::b::gm) pos) (tOr tA tB'):=by
 intro wh pins s σ H Q I h;refine isTrue_or (LV (ha pins s σ H _ I h) fun c s1 H1 I1 q1=>?_);cases c with
 | true=>exact ⟨H1,I1,q1⟩
 | false=>exact hb wh pins s1 σ H1 Q I1 q1
theorem sL (ha:PT X a tA):PT X (.UnaryOp .Not a pos) (afa tA):=by
 intro pins s σ H Q I h;exact isTrue_not (ha pins s σ H (fun c H1=>Q (!c) H1) I h)
def Va (ta tb:TE):TE:=fun σ H Q=>ta σ H fun x H1=>∃ c,x=.bl c/\if c=true then tb σ H1 Q else Q (.bl false) H1
def dSa (ta tb:TE):TE:=fun σ H Q=>ta σ H fun x H1=>∃ c,x=.bl c/\if c=true then Q (.bl true) H1 else tb σ H1 Q
def Us (ta:TE):TE:=fun σ H Q=>ta σ H fun x H1=>∃ c,x=.bl c/\Q (.bl (!c)) H1
theorem BT {op} {t:TE} (h:PE X a t):PE X (.BoolOp op [a] pos) t:=fun pins s σ H Q I hw=>BoolOp_one (h pins s σ H Q I hw)
theorem zz (ha:PE X a ta) (hb:PE X (.BoolOp .And (b::gm) pos) tb):PE X (.BoolOp .And (a::b::gm) pos) (Va ta tb):=by
 intro pins s σ H Q I h;refine BoolOp_and (dg (ha pins s σ H _ I h) fun v s1 x H1 I1 r1 q1=>?_);obtain ⟨c,rfl,q1⟩:=q1;cases r1;refine cw ?_;cases c with
 | true=>exact hb pins s1 σ H1 Q I1 q1
 | false=>exact ⟨.bl false,H1,I1,rfl,q1⟩
theorem dla (ha:PE X a ta):PE X (.UnaryOp .Not a pos) (Us ta):=by
 intro pins s σ H Q I h;refine UnaryOp_ (dg (ha pins s σ H _ I h) fun v s1 x H1 I1 r1 q1=>?_);obtain ⟨c,rfl,q1⟩:=q1;cases r1;exact not_of (cw ⟨.bl (!c),H1,I1,rfl,q1⟩)
def tIf (t:TT) (ta tb:TE):TE:=fun σ H Q=>t σ H fun c H1=>if c=true then ta σ H1 Q else tb σ H1 Q
end
end L2
namespace L2
open PySem PySem.Spec PyProof.Rows
def SqL (K:PySem.W.Frag) (H:Hp) (a:Addr) (xs:List V):Prop :=
 Rd H a (.lst xs) \/
   ∃ (o:Obj) (its:Array Value) (n:Nat),K.lookup a=some o/\o.cls=.type "list"/\o.dict=none/\o.data=.seq its n/\its.size<=sizeLine/\Vals xs its.toList
def SqT (K:PySem.W.Frag) (H:Hp) (a:Addr) (xs:List V):Prop :=
 Rd H a (.tup xs) \/
   ∃ (o:Obj) (its:Array Value) (n:Nat),K.lookup a=some o/\o.cls=.type "tuple"/\o.data=.seq its n/\its.size<=sizeLine/\Vals xs its.toList
def ePa:Value->Option V
 | .none=>some .non
 | .bool b=>some (.bl b)
 | .int i _=>some (.int i)
 | .str x _=>some (.str x)
 | .bytes b _=>some (.byt b)
 | .float b _=>some (.flt b)
 | .ref a=>some (.ref a)
 | .type n=>some (.ty n)
 | _=>none
theorem RelV.abs {x:V} {u:Value} (r:RelV x u):ePa u=some x:=by
 cases x with
 | non=>cases r;rfl
 | bl _=>cases r;rfl
 | int _=>obtain ⟨t,rfl⟩:=r;rfl
 | str _=>obtain ⟨t,rfl⟩:=r;rfl
 | byt _=>obtain ⟨t,rfl⟩:=r;rfl
 | flt _=>obtain ⟨t,rfl⟩:=r;rfl
 | ref _=>cases r;rfl
 | ty _=>cases r;rfl
theorem RelV.inj {x y:V} {u:Value} (r:RelV x u) (q:RelV y u):x=y:=bh (r.abs.symm.trans q.abs)
theorem Vals.inj {xs ys:List V} {us:List Value} (h:Vals xs us) (h2:Vals ys us):xs=ys:=by
 induction h generalizing ys with
 | nil=>cases h2;rfl
 | cons r _ ih=>cases h2 with|cons r2 t2=>rw [r.inj r2,ih t2]
section
variable {X:Cx} {pins:List (Addr × Obj)} {σ:St} {H:Hp} {s:Shared} {a:Addr} {xs ys:List V}
theorem SqL.of {K:PySem.W.Frag} (h:H a=some (.lst xs)):SqL K H a xs:=.inl (.inl h)
theorem SqT.of {K:PySem.W.Frag} (h:H a=some (.tup xs)):SqT K H a xs:=.inl (.inl h)
theorem Inv.list (I:Inv X pins σ H s) (h:SqL X.K H a xs):∃ its:List Value,Vals xs its/\PlainL s.heap a its.toArray/\xs.length<=sizeLine:=by
 rcases h with h|⟨o,its,n,hk,hc,hd,hs,hz,r⟩
 . obtain ⟨z,its,n,r,e⟩:=h.ok I.hok;exact ⟨its,r,⟨_,n,e,rfl,rfl,rfl⟩,z⟩
 . refine ⟨its.toList,r,⟨o,n,I.kIn a o hk,hc,hd,by simpa using hs⟩,?_⟩;have e:=r.length;simp only [iU] at e;omega
theorem Inv.tuple (I:Inv X pins σ H s) (h:SqT X.K H a xs):∃ its:List Value,Vals xs its/\IsTup s.heap a its.toArray/\xs.length<=sizeLine:=by
 rcases h with h|⟨o,its,n,hk,hc,hs,hz,r⟩
 . obtain ⟨z,its,r,p⟩:=h.ok I.hok;exact ⟨its,r,p,z⟩
 . refine ⟨its.toList,r,⟨o,I.kIn a o hk,hc,n,by simpa using hs⟩,?_⟩;have e:=r.length;simp only [iU] at e;omega
theorem Inv.list_inj (I:Inv X pins σ H s) (h:SqL X.K H a xs) (h':SqL X.K H a ys):xs=ys:=by
 obtain ⟨its,r,⟨o,n,e,_,_,d⟩,_⟩:=I.list h;obtain ⟨its',r',⟨o',n',e',_,_,d'⟩,_⟩:=I.list h';rw [e] at e';cases e';rw [d] at d';injection d' with d1 _
 have:its=its':=by simpa using congrArg Array.toList d1
 subst this;exact r.inj r'
theorem Inv.tuple_inj (I:Inv X pins σ H s) (h:SqT X.K H a xs) (h':SqT X.K H a ys):xs=ys:=by
 obtain ⟨its,r,⟨o,e,_,n,d⟩,_⟩:=I.tuple h;obtain ⟨its',r',⟨o',e',_,n',d'⟩,_⟩:=I.tuple h';rw [e] at e';cases e';rw [d] at d';injection d' with d1 _
 have:its=its':=by simpa using congrArg Array.toList d1
 subst this;exact r.inj r'
end
abbrev Cx.wish (X:Cx) (E:Value->Shared->Prop):Cx:={ X with xe:=E }
abbrev Cx.nox (X:Cx):Cx:=X.wish fun _ _=>False
theorem Cx.Ok.wish {X:Cx} (ok:X.Ok) (E:Value->Shared->Prop):(X.wish E).Ok :=
 ⟨ok.mod,ok.kind,ok.glob,ok.blt,ok.above,ok.inj,ok.has,ok.cab,ok.hd,ok.frames,ok.stk,ok.exf,ok.bs,ok.bsz,ok.noex,ok.exfs,ok.funs,ok.frf⟩
theorem Cx.Ok.unwish {X:Cx} {E:Value->Shared->Prop} (ok:(X.wish E).Ok):X.Ok :=
 ⟨ok.mod,ok.kind,ok.glob,ok.blt,ok.above,ok.inj,ok.has,ok.cab,ok.hd,ok.frames,ok.stk,ok.exf,ok.bs,ok.bsz,ok.noex,ok.exfs,ok.funs,ok.frf⟩
section
variable {X:Cx} {pins:List (Addr × Obj)} {σ:St} {H:Hp} {s:Shared} {E:Value->Shared->Prop}
theorem Inv.wish (I:Inv X pins σ H s) (E:Value->Shared->Prop):Inv (X.wish E) pins σ H s:=⟨I.ok.wish E,I.os,I.bare,I.base,I.loc,I.cell,I.free,I.freeC,I.pin,I.hok,I.len⟩
theorem Inv.unwish (I:Inv (X.wish E) pins σ H s):Inv X pins σ H s:=⟨I.ok.unwish,I.os,I.bare,I.base,I.loc,I.cell,I.free,I.freeC,I.pin,I.hok,I.len⟩
theorem SP.unwish {D:Ends} {f:Flow} {s':Shared} (h:SP (X.wish E) pins D f s'):SP X pins D f s':=by
 cases f with
 | next=>obtain ⟨σ',H',I,q⟩:=h;exact ⟨σ',H',I.unwish,q⟩
 | brk=>obtain ⟨σ',H',I,q⟩:=h;exact ⟨σ',H',I.unwish,q⟩
 | cont=>obtain ⟨σ',H',I,q⟩:=h;exact ⟨σ',H',I.unwish,q⟩
 | ret u=>obtain ⟨v,σ',H',I,r,q⟩:=h;exact ⟨v,σ',H',I.unwish,r,q⟩
theorem PSs.nox {st:List Stmt} {t:TS} (h:PSs X.nox st t):PSs X st t:=fun pins s σ H D I hw =>
 bg (h pins s σ H D (I.wish _) hw) (fun _ _ q=>q.unwish) fun _ _ z=>False.elim z
end
section
variable {X:Cx} {st:Stmt} {gm:List Stmt} {t u:TS} {e:Expr} {te:TE} {pos:Pos}
def tNext:TS:=fun D σ H=>D.nx σ H
def U3 (t u:TS):TS:=fun D σ H=>t { D with nx:=u D } σ H
theorem cU:PSs X [] tNext:=fun _ _ σ H _ I h=>fY ⟨σ,H,I,h⟩
theorem aF (h1:PS X st t) (h2:PSs X gm u):PSs X (st::gm) (U3 t u):=by
 intro pins s σ H D I h;refine mC (thn (h1 pins s σ H { D with nx:=u D } I h) fun f s1 q=>?_);cases f with
 | next =>
   obtain ⟨σ',H',I',q⟩:=q;exact h2 pins s1 σ' H' D I' q
 | ret v=>exact q
 | brk=>exact q
 | cont=>exact q
theorem aN (h1:PS X st t):PSs X [st] t:=by
 intro pins s σ H D I h;refine mC (thn (h1 pins s σ H D I h) fun f s1 q=>?_);cases f with
 | next=>exact fY q
 | ret v=>exact q
 | brk=>exact q
 | cont=>exact q
theorem Inv.quiet {pins:List (Addr × Obj)} {σ:St} {H:Hp} {s:Shared} (I:Inv X pins σ H s):interactive X.env=false:=by simp [interactive,I.ok.kind]
def UO (te:TE):TS:=fun D σ H=>te σ H fun _ H1=>D.nx σ H1
theorem dy (he:PE X e te) (hs:swapsWith e none pos.line X.env=pure false:=by rfl):PS X (.Expr e pos) (UO te):=by
 intro pins s σ H D I h;exact wpAny_Expr_any (dg (he pins s σ H _ I h) fun v s1 x H1 I1 r1 q1=>⟨σ,H1,I1,q1⟩) I.quiet hs
def Y3 (te:TE):TS:=fun D σ H=>te σ H D.rt
theorem b5 (he:PE X e te):PS X (.Return (some e) pos) (Y3 te):=by
 intro pins s σ H D I h;exact wpAny_Return_some (dg (he pins s σ H _ I h) fun v s1 x H1 I1 r1 q1=>⟨x,σ,H1,I1,r1,q1⟩)
def bMa:TS:=fun D _ H=>D.rt .non H
def Qj (c:TT) (t u:TS):TS:=fun D σ H=>c σ H fun b H1=>if b=true then t D σ H1 else u D σ H1
theorem eN {c:Expr} {a b:List Stmt} {tc:TT} (hc:PT X c tc) (ha:PSs X a t) (hb:PSs X b u):PS X (.If c a b pos) (Qj tc t u):=by
 intro pins s σ H D I h;refine wpAny_If (LV (hc pins s σ H _ I h) fun d s1 H1 I1 q1=>?_);cases d with
 | true=>exact ha pins s1 σ H1 D I1 q1
 | false=>exact hb pins s1 σ H1 D I1 q1
def tNever:TS:=fun _ _ _=>False
theorem ww:PS X st tNever:=fun _ _ _ _ _ _ h=>h.elim
end
abbrev TG:=V->St->Hp->(St->Hp->Prop)->Prop
abbrev TGs:=List V->St->Hp->(St->Hp->Prop)->Prop
def PG (X:Cx) (target:Expr) (t:TG):Prop :=
 ∀ (pins:List (Addr × Obj)) (s:Shared) (σ:St) (H:Hp) (v:V) (u:Value) (Q:St->Hp->Prop),Inv X pins σ H s->RelV v u->t v σ H Q ->
   wpAny (model X.prog X.w) X.A (assign target X.env u) (fun _ s'=>∃ σ' H',Inv X pins σ' H' s'/\Q σ' H') X.xe s
def PGs (X:Cx) (ts:List Expr) (t:TGs):Prop :=
 ∀ (pins:List (Addr × Obj)) (s:Shared) (σ:St) (H:Hp) (vs:List V) (us:List Value) (Q:St->Hp->Prop),Inv X pins σ H s->Vals vs us->t vs σ H Q ->
   wpAny (model X.prog X.w) X.A (assignInOrder ((assignEach ts X.env).map (·.2)) us) (fun _ s'=>∃ σ' H',Inv X pins σ' H' s'/\Q σ' H') X.xe s
abbrev Qz:=V->V->V->Hp->(Hp->Prop)->Prop
def bsa (X:Cx) (t:Qz):Prop :=
 ∀ (pins:List (Addr × Obj)) (s:Shared) (σ:St) (H:Hp) (o i v:V) (ov iv u:Value) (Q:Hp->Prop),Inv X pins σ H s->RelV o ov->RelV i iv->RelV v u->t o i v H Q ->
   wpAny (model X.prog X.w) X.A (setItem ov iv u) (fun _ s'=>∃ H',Inv X pins σ H' s'/\Q H') X.xe s
abbrev TIp:=V->V->Hp->VK->Prop
def PIp (X:Cx) (op:Operator) (t:TIp):Prop :=
 ∀ (pins:List (Addr × Obj)) (s:Shared) (σ:St) (H:Hp) (x y:V) (v u:Value) (Q:VK),Inv X pins σ H s->RelV x v->RelV y u->t x y H Q ->
   wpAny (model X.prog X.w) X.A (inplaceOp op v u) (EP X pins σ Q) X.xe s
section
variable {X:Cx} {pos:Pos}
def Dj (i:Nat):TG:=fun v σ H Q=>Q (σ.set i (some v)) H
theorem bE {i:Nat} {x:Str} (hN:X.N.Nodup) (hi:X.N[i]?=some x) (hx:Loc X.env.scope x) (hf:X.fn x=true\/X.env.scope.names.lookup x=some .local:=by first|exact .inl rfl|exact .inr rfl|assumption):PG X (.Name x pos) (Dj i):=by
 intro pins s σ H v u Q I r h;exact wpAny_assign_Name (IB I hN hi hx r (fun s' I'=>⟨_,H,I',h⟩) hf)
def gNil:TGs:=fun vs σ H Q=>vs=[]/\Q σ H
def KG (t:TG) (u:TGs):TGs:=fun vs σ H Q=>∃ v r,vs=v::r/\t v σ H fun σ' H'=>u r σ' H' Q
theorem oF:PGs X [] gNil:=by
 intro pins s σ H vs us Q I r h;obtain ⟨e,h⟩:=h;subst e;cases r;exact assignInOrder_nil ⟨σ,H,I,h⟩
theorem c7 {e:Expr} {es:List Expr} {t:TG} {u:TGs} (h1:PG X e t) (h2:PGs X es u)
   (hs:(assignEach (e::es) X.env).map (·.2)=assign e X.env::(assignEach es X.env).map (·.2):=by rfl):PGs X (e::es) (KG t u):=by
 intro pins s σ H vs us Q I r h;obtain ⟨v,vr,e1,h⟩:=h;subst e1;cases r with
 | cons r rr =>
   rw [hs];refine assignInOrder_cons (thn (h1 pins s σ H _ _ _ I r h) fun _ s1 ⟨σ1,H1,I1,q1⟩=>?_);exact h2 pins s1 σ1 H1 _ _ Q I1 rr q1
def Pd (K:PySem.W.Frag) (n:Nat) (t:TGs):TG:=fun v σ H Q=>∃ a xs,v=.ref a/\SqT K H a xs/\xs.length=n/\t xs σ H Q
theorem rf {es:List Expr} {k:Nat} {t:TGs} {n:Nat} (hc:X.calm=true) (h:PGs X es t)
   (hn:(assignEach es X.env).length=n:=by rfl) (hst:(assignEach es X.env).findIdx? (·.1)=none:=by rfl):PG X (.Tuple es k pos) (Pd X.K n t):=by
 intro pins s σ H v u Q I r hw;obtain ⟨a,xs,e1,hq,hl,hw⟩:=hw;subst e1;cases r;obtain ⟨its,rv,ht,hz⟩:=I.tuple hq;refine assign_Tuple_tuple (I.ok.hd hc) ht (by simp [hn,<- hl,rv.length]) hst fun h' hx=>?_;have I1:Inv X pins σ H { s with heap:=h' }:=I.kept (t':=s.toks) fun b o e=>hx b o (aE (aw e)) e;exact h pins _ σ H xs _ Q I1 (by simpa using rv) hw
def bda (to ti:TE) (t:Qz):TG:=fun v σ H Q=>to σ H fun o H1=>ti σ H1 fun i H2=>t o i v H2 fun H3=>Q σ H3
theorem vf {o i:Expr} {to ti:TE} {t:Qz} (ho:PE X o to) (hi:PE X i ti) (hs:bsa X t)
   (ha:∀ v,assign (.Subscript o i pos) X.env v=(do
     let ov <- holding [v] (eval o X.env)
     let iv <- holding [v,ov] (eval i X.env)
     standAt pos
     holding [v,ov,iv] (setItem ov iv v)
     release [v,ov,iv] []):=by intro _;rfl):PG X (.Subscript o i pos) (bda to ti t):=by
 intro pins s σ H v u Q I r h;rw [ha];refine aa (bD (dg (ho pins s σ H _ I h) fun ov s1 x H1 I1 r1 q1=>?_));refine aa (bD (dg (hi pins s1 σ H1 _ I1 q1) fun iv s2 y H2 I2 r2 q2=>?_));refine aa (cY (aa (bD (thn (hs pins s2 σ H2 x y v ov iv u _ I2 r1 r2 r q2) fun _ s3 ⟨H3,I3,q3⟩=>?_))));exact wpAny_release ⟨σ,H3,I3,q3⟩
def Pt (te:TE) (g:TG):TS:=fun D σ H=>te σ H fun x H1=>g x σ H1 D.nx
theorem rL {tg e:Expr} {te:TE} {g:TG} (he:PE X e te) (hg:PG X tg g) (hs:swapsWithSole [tg] e pos.line X.env=pure false:=by rfl) (hw:swappedStores [tg] e X.env=pure none:=by rfl)
   (h1:(assignEach [tg] X.env).map (·.2)=[assign tg X.env]:=by rfl):PS X (.Assign [tg] e pos) (Pt te g):=by
 intro pins s σ H D I h;refine wpAny_Assign_stores (dg (he pins s σ H _ I h) fun v s1 x H1 I1 r1 q1=>?_) hs hw;rw [h1];exact thn (hg pins s1 σ H1 x v _ I1 r1 q1) fun _ s2 q=>q
theorem bz {i:Nat} {x:Str} {e:Expr} {te:TE} {pos':Pos} (hN:X.N.Nodup) (hi:X.N[i]?=some x) (hx:Loc X.env.scope x) (he:PE X e te) (hs:swapsWith e (some (.Name x pos')) pos.line X.env=pure false:=by rfl) (hf:X.fn x=true\/X.env.scope.names.lookup x=some .local:=by first|exact .inl rfl|exact .inr rfl|assumption) :
   PS X (.Assign [.Name x pos'] e pos) (Pt te (Dj i)):=by
 intro pins s σ H D I h;refine wpAny_Assign_Name (dg (he pins s σ H _ I h) fun v s1 y H1 I1 r1 q1=>?_) hs;exact IB I1 hN hi hx r1 (fun s2 I2=>⟨_,H1,I2,q1⟩) hf
def d1a (i:Nat) (te:TE) (ti:TIp):TS:=fun D σ H=>∃ x,σ[i]?=some (some x)/\te σ H fun y H1=>ti x y H1 fun z H2=>D.nx (σ.set i (some z)) H2
def Ut (to ti te:TE) (tget:V->V->Hp->VK->Prop) (tip:TIp) (tset:Qz):TS:=fun D σ H=>to σ H fun o H1=>ti σ H1 fun i H2=>tget o i H2 fun x H3=>te σ H3 fun y H4=>tip x y H4 fun z H5=>tset o i z H5 fun H6=>D.nx σ H6
def dKa (X:Cx) (t:V->V->Hp->VK->Prop):Prop :=
 ∀ (pins:List (Addr × Obj)) (s:Shared) (σ:St) (H:Hp) (o i:V) (ov iv:Value) (Q:VK),Inv X pins σ H s->RelV o ov->RelV i iv->t o i H Q ->
   wpAny (model X.prog X.w) X.A (getItem ov iv) (EP X pins σ Q) X.xe s
theorem Lu {o i e:Expr} {to ti te:TE} {tget:V->V->Hp->VK->Prop} {tip:TIp} {tset:Qz} {op:Operator} {tpos:Pos} (ho:PE X o to) (hi:PE X i ti) (hg:dKa X tget) (he:PE X e te) (hp:PIp X op tip) (hs:bsa X tset)
   (ha:∀ ov iv new,augStore i ov iv new=(do holding [new,ov,iv] (setItem ov iv new);release [new,ov,iv] [];pure .next):=by intros;rfl):PS X (.AugAssign (.Subscript o i tpos) op e pos) (Ut to ti te tget tip tset):=by
 intro pins s σ H D I h;refine wpAny_AugAssign_SubscriptAny (dg (ho pins s σ H _ I h) fun ov s1 x1 H1 I1 r1 q1=>?_) ha;refine dg (hi pins s1 σ H1 _ I1 q1) fun iv s2 x2 H2 I2 r2 q2=>?_;refine thn (hg pins s2 σ H2 x1 x2 ov iv _ I2 r1 r2 q2) fun old s3 ⟨x3,H3,I3,r3,q3⟩=>?_;refine dg (he pins s3 σ H3 _ I3 q3) fun v s4 x4 H4 I4 r4 q4=>?_;refine thn (hp pins s4 σ H4 x3 x4 old v _ I4 r3 r4 q4) fun new s5 ⟨x5,H5,I5,r5,q5⟩=>?_;exact thn (hs pins s5 σ H5 x1 x2 x5 ov iv new _ I5 r1 r2 r5 q5) fun _ s6 ⟨H6,I6,q6⟩=>⟨σ,H6,I6,q6⟩
def ipI (f:Int->Int->Int):TIp:=fun x y H Q=>∃ i j,x=.int i/\y=.int j/\Q (.int (f i j)) H
theorem XC:PIp X .Add (ipI fun i j=>i+j):=by
 intro pins s σ H x y v u Q I r1 r2 h;obtain ⟨i,j,e1,e2,q⟩:=h;subst e1;subst e2;obtain ⟨t,rfl⟩:=r1;obtain ⟨t',rfl⟩:=r2;exact iadd_int ⟨.int _,H,I.tok _,⟨_,rfl⟩,q⟩
theorem eba:PIp X .Sub (ipI fun i j=>i - j):=by
 intro pins s σ H x y v u Q I r1 r2 h;obtain ⟨i,j,e1,e2,q⟩:=h;subst e1;subst e2;obtain ⟨t,rfl⟩:=r1;obtain ⟨t',rfl⟩:=r2;exact isub_int ⟨.int _,H,I.tok _,⟨_,rfl⟩,q⟩
end
section
variable {X:Cx} {pos:Pos}
def O6 (c:TT) (tb:TS):TS:=fun D σ H=>∃ W:Nat->St->Hp->Prop,(∃ m,W m σ H)/\∀ m σ H,W m σ H ->
 c σ H fun b H1=>if b=true then ∃ N:St->Hp->Prop,(∀ σ' H',N σ' H'->∃ m',m'<m/\W m' σ' H')/\tb { D with nx:=N,ct:=N,bk:=D.nx } σ H1 else D.nx σ H1
theorem Dv {c:Expr} {body:List Stmt} {tc:TT} {tb:TS} (hp:PassesOwn (model X.prog X.w) X.A X.env X.xe) (hc:PT X c tc) (hb:PSs X body tb):PS X (.While c body [] pos) (O6 tc tb):=by
 intro pins s σ H D I h;obtain ⟨W,⟨m0,w0⟩,turn⟩:=h;refine wpAny_While (codeAny_whileLoop (fun n s'=>∃ σ' H',Inv X pins σ' H' s'/\W n σ' H') ?_ m0 ⟨σ,H,I,w0⟩);rintro n s1 ⟨σ1,H1,I1,w1⟩;refine fg hp (LV (hc pins s1 σ1 H1 _ I1 (turn n σ1 H1 w1)) fun b s2 H2 I2 q2=>?_);cases b with
 | true =>
   obtain ⟨N,hN,q2⟩:=q2;rw [am rfl];refine fg hp (thn (hb pins s2 σ1 H2 _ I2 q2) fun f s3 q3=>?_);cases f with
   | next =>
     obtain ⟨σ3,H3,I3,n3⟩:=q3;obtain ⟨m',hm,w3⟩:=hN σ3 H3 n3;exact ⟨m',hm,σ3,H3,I3,w3⟩
   | cont =>
     obtain ⟨σ3,H3,I3,n3⟩:=q3;obtain ⟨m',hm,w3⟩:=hN σ3 H3 n3;exact ⟨m',hm,σ3,H3,I3,w3⟩
   | brk=>exact q3
   | ret v=>exact q3
 | false =>
   rw [aj aP];exact fY ⟨σ1,H2,I2,q2⟩
end
structure It where
 go:Nat->Hp->Prop
 yld:Nat->Hp->V->Hp->Prop
 stop:Nat->Hp->Prop
def tU (X:Cx) (pins:List (Addr × Obj)) (H:Hp) (b:Addr):Prop :=
 H b=none/\b≠X.env.locals/\b ∉ X.fs/\(b∈X.ex\/X.s₀.heap.objs.size<=b)/\(∀ x c,X.env.cells.lookup x=some c->c≠b)/\∀ p∈X.pn++pins,p.1≠b
theorem Inv.fpOk {X:Cx} {pins:List (Addr × Obj)} {σ:St} {H H':Hp} {s:Shared} {b:Addr} (I:Inv X pins σ H s) (hb:s.heap.objs.size<=b) (hn:H' b=none):tU X pins H' b:=by
 refine ⟨hn,dI (aM I.lt hb),I.nofs hb,.inr (bP I.sz hb),fun x c e z=>?_,fun p hp z=>?_⟩
 . obtain ⟨v,q⟩:=I.cell x c e;exact absurd (aM q.lt (by rw [z];exact hb)) (dl _)
 . exact absurd (aM (aw (I.pin p hp).1) (by rw [z];exact hb)) (dl _)
structure Turn (P:Program) (w:World) (K:PySem.W.Frag) (tg:Expr) (J:It) (fp:List Addr) (it:Addr) (tn:Nat->Heap->Prop):Prop where
 mem:it∈fp
 obj:∀ i h,tn i h->∀ b∈fp,∃ o,h.get? b=some o/\∀ v,o.data≠.cell v
 keep:∀ i h h',tn i h->(∀ b∈fp,∀ o,h.get? b=some o->h'.get? b=some o)->tn i h'
 item:∀ (X:Cx),X.prog=P->X.w=w->X.K=K->X.calm=true->∀ (i:Nat) (pins:List (Addr × Obj)) (s:Shared) (σ:St) (H:Hp) (E:Value->Shared->Prop),Inv X pins σ H s->(∀ b∈fp,tU X pins H b)->tn i s.heap->J.go i H ->
   wpAny (model P w) X.A (pyNext (.ref it)) (fun r s1=>∃ u,r=some u /\
     wpAny (model P w) X.A (letOwnedTupleGo tg (.ref it) u) (fun _ s2=>∃ x H',Inv X pins σ H' s2/\RelV x u/\J.yld i H x H'/\tn (i+1) s2.heap/\∀ b∈fp,H' b=none) E s1) E s
 done:∀ (X:Cx),X.prog=P->X.w=w->X.K=K->X.calm=true->∀ (i:Nat) (pins:List (Addr × Obj)) (s:Shared) (σ:St) (H:Hp) (E:Value->Shared->Prop),Inv X pins σ H s->(∀ b∈fp,tU X pins H b)->tn i s.heap->J.stop i H ->
   wpAny (model P w) X.A (pyNext (.ref it)) (fun r s1=>r=none/\Inv X pins σ H s1) E s
 self:∀ (A:Around) (i:Nat) (s:Shared) (Q:Value->Shared->Prop) (E:Value->Shared->Prop),tn i s.heap->Q (.ref it) s->wpAny (model P w) A (pyIter (.ref it)) Q E s
abbrev TI:=St->Hp->(It->Hp->Prop)->Prop
def PIE (X:Cx) (pins:List (Addr × Obj)) (σ:St) (tg:Expr) (R:It->Hp->Prop) (itv:Value) (s2:Shared):Prop :=
 ∃ (it:Addr) (fp:List Addr) (tn:Nat->Heap->Prop) (J:It) (H':Hp),itv=.ref it/\Inv X pins σ H' s2/\Turn X.prog X.w X.K tg J fp it tn/\tn 0 s2.heap/\(∀ b∈fp,tU X pins H' b)/\R J H'
def PI (X:Cx) (tg iter:Expr) (wi:TI):Prop :=
 ∀ (pins:List (Addr × Obj)) (s:Shared) (σ:St) (H:Hp) (R:It->Hp->Prop),Inv X pins σ H s->wi σ H R ->
   wpAny (model X.prog X.w) X.A (eval iter X.env) (fun v s1=>wpAny (model X.prog X.w) X.A (pyIter v) (PIE X pins σ tg R) X.xe s1) X.xe s
theorem OP {M:Model} {A:Around} {E:Value->Shared->Prop} {s:Shared} {tg:Expr} {it:Addr} {u:Value} {o:Obj} {n:String} {vs:Array Value} {Q:Unit->Shared->Prop} (ho:s.heap.get? it=some o) (hc:o.cls=.type n) (hd:o.data=.fields vs)
   (hn:["enumerate","zip","dict_itemiterator","dict_reverseitemiterator","odict_iterator","itertools.zip_longest","itertools.pairwise"].contains n=false) (hQ:Q () s):wpAny M A (letOwnedTupleGo tg (.ref it) u) Q E s:=by
 unfold letOwnedTupleGo;cases tg <;> first
   | exact ao hQ
   | (cases u <;> first
       | exact ao hQ
       | (refine aa (wpAny_load ho ?_)
          rw [hc,hd];show wpAny M A (if (["enumerate","zip","dict_itemiterator","dict_reverseitemiterator","odict_iterator","itertools.zip_longest","itertools.pairwise"].contains n && vs[0]? == some (rawInt _))=true then _ else _) Q E s;rw [aj (by intro h;rw [hn,ff] at h;cases h)];exact ao hQ))
def Itl (K:PySem.W.Frag) (a:Addr):It :=
 ⟨fun i H=>∃ xs x,SqL K H a xs/\xs[i]?=some x,fun i H x H'=>H'=H/\∀ xs,SqL K H a xs->xs[i]?=some x,fun i H=>∃ xs,SqL K H a xs/\xs.length<=i⟩
def Itt (K:PySem.W.Frag) (a:Addr):It :=
 ⟨fun i H=>∃ xs x,SqT K H a xs/\xs[i]?=some x,fun i H x H'=>H'=H/\∀ xs,SqT K H a xs->xs[i]?=some x,fun i H=>∃ xs,SqT K H a xs/\xs.length<=i⟩
def Itr (lo:Int) (n:Nat):It:=⟨fun i _=>i<n,fun i H x H'=>H'=H/\x=.int (lo+i),fun i _=>n<=i⟩
theorem WB {P:Program} {w:World} {K:PySem.W.Frag} {tg:Expr} (a it:Addr):Turn P w K tg (Itl K a) [it] it (fun i h=>h.IsListIter it a i) where
 mem:=by simp
 obj:=fun i h st b hb=>by
   have e:b=it:=by simpa using hb
   subst e;obtain ⟨o,e,c,d⟩:=st;exact ⟨o,e,fun v z=>by rw [d] at z;cases z⟩
 keep:=fun i h h' st k=>st.at fun o e=>k it (by simp) o e
 item:=by
   intro X hP hw hK hc i pins s σ H E I hf st hg;subst hP hw hK;obtain ⟨xs,x,hq,hx⟩:=hg;obtain ⟨its,rv,p,hz⟩:=I.list hq;obtain ⟨u,hu,ru⟩:=rv.get hx;obtain ⟨f0,f1,f2,f3,f4,f5⟩:=hf it (by simp);refine wpAny_pyNext_list_item st p.isList (x:=u) (by simpa using hu) fun h' st' sb=>?_;have I1:Inv X pins σ H { s with heap:=h' }:=I.turned (t':=s.toks) (fun b o hb e=>(sb.2 b hb).trans e) f0 f1 f3 f4 f5;obtain ⟨o,e,c,d⟩:=id st';exact ⟨u,rfl,OP (s:={ s with heap:=h' }) e c d (by decide) ⟨x,H,I1,ru,⟨rfl,fun ys hy=>by rw [I.list_inj hy hq];exact hx⟩,st',fun b hb=>(hf b hb).1⟩⟩
 done:=by
   intro X hP hw hK hc i pins s σ H E I hf st hg;subst hP hw hK;obtain ⟨xs,hq,hx⟩:=hg;obtain ⟨its,rv,p,hz⟩:=I.list hq;obtain ⟨f0,f1,f2,f3,f4,f5⟩:=hf it (by simp);have hl:=rv.length;exact wpAny_pyNext_list_end (I.ok.hd hc) st p.isList (by simp;omega) fun h' eb=>⟨rfl,I.turned (t':=s.toks) (fun b o hb e=>eb b o hb e) f0 f1 f3 f4 f5⟩
 self:=fun _ _ _ _ _ st h=>wpAny_pyIter_listiter st h
theorem UZ {P:Program} {w:World} {K:PySem.W.Frag} {tg:Expr} (a it:Addr):Turn P w K tg (Itt K a) [it] it (fun i h=>h.IsTupleIter it a i) where
 mem:=by simp
 obj:=fun i h st b hb=>by
   have e:b=it:=by simpa using hb
   subst e;obtain ⟨o,e,c,d⟩:=st;exact ⟨o,e,fun v z=>by rw [d] at z;cases z⟩
 keep:=fun i h h' st k=>st.at fun o e=>k it (by simp) o e
 item:=by
   intro X hP hw hK hc i pins s σ H E I hf st hg;subst hP hw hK;obtain ⟨xs,x,hq,hx⟩:=hg;obtain ⟨its,rv,p,hz⟩:=I.tuple hq;obtain ⟨u,hu,ru⟩:=rv.get hx;obtain ⟨f0,f1,f2,f3,f4,f5⟩:=hf it (by simp);refine wpAny_pyNext_tuple_item st (show s.heap.IsTuple a its.toArray from p) (x:=u) (by simpa using hu) fun h' st' sb=>?_;have I1:Inv X pins σ H { s with heap:=h' }:=I.turned (t':=s.toks) (fun b o hb e=>(sb.2 b hb).trans e) f0 f1 f3 f4 f5;obtain ⟨o,e,c,d⟩:=id st';exact ⟨u,rfl,OP (s:={ s with heap:=h' }) e c d (by decide) ⟨x,H,I1,ru,⟨rfl,fun ys hy=>by rw [I.tuple_inj hy hq];exact hx⟩,st',fun b hb=>(hf b hb).1⟩⟩
 done:=by
   intro X hP hw hK hc i pins s σ H E I hf st hg;subst hP hw hK;obtain ⟨xs,hq,hx⟩:=hg;obtain ⟨its,rv,p,hz⟩:=I.tuple hq;obtain ⟨f0,f1,f2,f3,f4,f5⟩:=hf it (by simp);have hl:=rv.length;exact wpAny_pyNext_tuple_end (I.ok.hd hc) st (show s.heap.IsTuple a its.toArray from p) (by simp;omega) fun h' eb=>⟨rfl,I.turned (t':=s.toks) (fun b o hb e=>eb b o hb e) f0 f1 f3 f4 f5⟩
 self:=fun _ _ _ _ _ st h=>wpAny_pyIter_tupleiter st h
theorem U6 {P:Program} {w:World} {K:PySem.W.Frag} {tg:Expr} (it:Addr) (lo:Int) (n:Nat):Turn P w K tg (Itr lo n) [it] it (fun i h=>IsRangeIter h it (lo+(i:Nat)*1) ((n:Int) - (i:Nat)) 1) where
 mem:=by simp
 obj:=fun i h st b hb=>by
   have e:b=it:=by simpa using hb
   subst e;exact ⟨_,st,fun v z=>by
     have z':Data.fields _=Data.cell v:=z;cases z'⟩
 keep:=fun i h h' st k=>k it (by simp) _ st
 item:=by
   intro X hP hw hK hc i pins s σ H E I hf st hg;subst hP hw hK;obtain ⟨f0,f1,f2,f3,f4,f5⟩:=hf it (by simp);have W:=Walks.range (prog:=X.prog) (w:=X.w) (I.ok.hd hc) it lo 1 n;refine W.item i s _ _ hg st fun v h' tk hv st' kk=>?_;obtain ⟨t,rfl⟩:=hv;have I1:Inv X pins σ H { s with heap:=h',toks:=tk }:=I.turned (fun b o hb e=>kk b o (by simpa using hb) e) f0 f1 f3 f4 f5;refine ⟨_,rfl,OP (s:={ s with heap:=h',toks:=tk }) (n:="range_iterator") st' rfl rfl (by decide) ⟨.int (lo+i),H,I1,⟨t,?_⟩,⟨rfl,rfl⟩,st',fun b hb=>(hf b hb).1⟩⟩;rw [Int.mul_one]
 done:=by
   intro X hP hw hK hc i pins s σ H E I hf st hg;subst hP hw hK;obtain ⟨f0,f1,f2,f3,f4,f5⟩:=hf it (by simp);exact wpAny_pyNext_range_end (I.ok.hd hc) st (by have:n<=i:=hg;omega) fun h' eb=>⟨rfl,I.turned (t':=s.toks) (fun b o hb e=>eb b o hb e) f0 f1 f3 f4 f5⟩
 self:=fun _ _ _ _ _ st h=>wpAny_pyIter_rangeiter st h
end L2
namespace L2
open PySem PySem.Spec PyProof.Rows
section
variable {X:Cx} {tg:Expr}
def Vz (K:PySem.W.Frag) (tl:TE):TI:=fun σ H R=>tl σ H fun x H1=>∃ a,x=.ref a/\(∃ xs,SqL K H1 a xs)/\R (Itl K a) H1
def Za (K:PySem.W.Frag) (tl:TE):TI:=fun σ H R=>tl σ H fun x H1=>∃ a,x=.ref a/\(∃ xs,SqT K H1 a xs)/\R (Itt K a) H1
theorem mI {l:Expr} {tl:TE} (hl:PE X l tl):PI X tg l (Vz X.K tl):=by
 intro pins s σ H R I h;refine dg (hl pins s σ H _ I h) fun v s1 x H1 I1 r1 q1=>?_;obtain ⟨a,e,⟨xs,hq⟩,q⟩:=q1;subst e;cases r1;obtain ⟨its,rv,p,hz⟩:=I1.list hq;refine iV p.isList ?_;refine ⟨s1.heap.objs.size,[s1.heap.objs.size],_,_,H1,rfl,I1.kept (t':=s1.toks) fun b o e=>ap _ e,WB a _,⟨_,aJ _ rfl,rfl,rfl⟩,fun b hb=>?_,q⟩;have e:b=s1.heap.objs.size:=by simpa using hb
 subst e;exact I1.fpOk (aA _) (I1.hok.fresh (aA _))
theorem FR {l:Expr} {tl:TE} (hl:PE X l tl):PI X tg l (Za X.K tl):=by
 intro pins s σ H R I h;refine dg (hl pins s σ H _ I h) fun v s1 x H1 I1 r1 q1=>?_;obtain ⟨a,e,⟨xs,hq⟩,q⟩:=q1;subst e;cases r1;obtain ⟨its,rv,p,hz⟩:=I1.tuple hq;refine wpAny_pyIter_tuple (show s1.heap.IsTuple a its.toArray from p) ?_;refine ⟨s1.heap.objs.size,[s1.heap.objs.size],_,_,H1,rfl,I1.kept (t':=s1.toks) fun b o e=>ap _ e,UZ a _,⟨_,aJ _ rfl,rfl,rfl⟩,fun b hb=>?_,q⟩;have e:b=s1.heap.objs.size:=by simpa using hb
 subst e;exact I1.fpOk (aA _) (I1.hok.fresh (aA _))
theorem Rn {pins:List (Addr × Obj)} {σ:St} {H:Hp} {s:Shared} {R:It->Hp->Prop} {E:Value->Shared->Prop} {lo hi:Int} {t u v:Tok} {tk:Nat} (I:Inv X pins σ H s) (h1:-(2^62)<=lo) (h2:lo<2^62) (h3:-(2^62)<=hi) (h4:hi<2^62)
   (q:R (Itr lo (hi - lo).toNat) H):wpAny (model X.prog X.w) X.A (pyIter (.ref s.heap.objs.size)) (PIE X pins σ tg R) E { s with heap:=s.heap.push { cls:=.type "range",data:=.fields #[.int lo t,.int hi u,.int 1 v] },toks:=tk }:=by
 refine wpAny_pyIter_range (IsRange.new ..) (small_one h1 h2 h3 h4) ?_;have I1:Inv X pins σ H { s with heap:=s.heap.push { cls:=.type "range",data:=.fields #[.int lo t,.int hi u,.int 1 v] },toks:=tk }:=I.kept fun b o e=>ap _ e;refine ⟨(s.heap.push { cls:=.type "range",data:=.fields #[.int lo t,.int hi u,.int 1 v] }).objs.size,[(s.heap.push { cls:=.type "range",data:=.fields #[.int lo t,.int hi u,.int 1 v] }).objs.size],_,_,H,rfl,
   I1.kept (t':=tk) fun b o e=>ap _ e,U6 _ lo (hi - lo).toNat,?_,fun b hb=>?_,q⟩
 . have e1:lo+((0:Nat):Int)*1=lo:=by simp
   have e2:(((hi - lo).toNat:Nat):Int) - ((0:Nat):Int)=Builtin.Range.rangeSize lo hi 1:=by rw [rangeSize_one];split <;> omega
   show IsRangeIter _ _ (lo+((0:Nat):Int)*1) ((((hi - lo).toNat:Nat):Int) - ((0:Nat):Int)) 1;rw [e1,e2];exact aJ _ rfl
 . have e:b=(s.heap.push { cls:=.type "range",data:=.fields #[.int lo t,.int hi u,.int 1 v] }).objs.size:=by simpa using hb
   subst e;exact I1.fpOk (aA _) (I1.hok.fresh (aA _))
def UH (ta:TA):TI:=fun σ H R=>ta σ H fun vs H1=>∃ j:Int,vs=[.int j]/\-(2^62)<=j/\j<2^62/\R (Itr 0 j.toNat) H1
def Vk (ta:TA):TI:=fun σ H R=>ta σ H fun vs H1=>∃ i j:Int,vs=[.int i,.int j]/\(-(2^62)<=i/\i<2^62/\-(2^62)<=j/\j<2^62)/\R (Itr i (j - i).toNat) H1
theorem uM {a:Expr} {ta:TA} {p pos:Pos} (hg:Gl X "range") (hm:X.mg "range"=none) (ha:PA X [a] ta) (hs:starEach [a] X.env=[(false,eval a X.env)]:=by rfl):PI X tg (.Call (.Name "range" p) [a] [] pos) (UH ta):=by
 intro pins s σ H R I h;refine Call_ (pS I hg hm boot_range (bQ (zf (ha pos pins s σ H _ I h) fun us s1 vs H1 I1 r1 q1=>?_) hs rfl));obtain ⟨j,e,q1,q2,q⟩:=q1;subst e;cases r1 with
 | cons r rr =>
   cases rr;obtain ⟨t,rfl⟩:=r;exact call_range_1 (Rn I1 (by omega) (by omega) q1 q2 (by simpa using q))
theorem EZ {a b:Expr} {ta:TA} {p pos:Pos} (hg:Gl X "range") (hm:X.mg "range"=none) (ha:PA X [a,b] ta) (hs:starEach [a,b] X.env=[(false,eval a X.env),(false,eval b X.env)]:=by rfl) (hs2:starEach [b] X.env=[(false,eval b X.env)]:=by rfl) :
   PI X tg (.Call (.Name "range" p) [a,b] [] pos) (Vk ta):=by
 intro pins s σ H R I h;refine Call_ (pS I hg hm boot_range (bQ (zf (ha pos pins s σ H _ I h) fun us s1 vs H1 I1 r1 q1=>?_) (by rw [hs,hs2]) (by rw [hs2];rfl)));obtain ⟨i,j,e,⟨q1,q2,q3,q4⟩,q⟩:=q1;subst e;cases r1 with
 | cons r rr =>
   cases rr with
   | cons r' rr =>
     cases rr;obtain ⟨t,rfl⟩:=r;obtain ⟨t',rfl⟩:=r';exact call_range_2 (Rn I1 q1 q2 q3 q4 q)
def dTa (wi:TI) (g:TG) (tb:TS):TS:=fun D σ H=>wi σ H fun J H1=>∃ W:Nat->Nat->St->Hp->Prop,(∃ m,W 0 m σ H1)/\∀ i m σ H,W i m σ H ->
 (J.stop i H/\D.nx σ H)\/(J.go i H/\∃ N:St->Hp->Prop,(∀ σ' H',N σ' H'->∃ m',m'<m/\W (i+1) m' σ' H')/\∀ x H',J.yld i H x H'->g x σ H' fun σ2 H2=>tb { D with nx:=N,ct:=N,bk:=D.nx } σ2 H2)
def BW (fp:List Addr) (h:Heap):List (Addr × Obj):=fp.filterMap fun b=>(h.get? b).map fun o=>(b,o)
theorem rR {fp:List Addr} {h:Heap} {b:Addr} {o:Obj} (hb:b∈fp) (e:h.get? b=some o):(b,o)∈BW fp h:=List.mem_filterMap.mpr ⟨b,hb,by rw [e];rfl⟩
theorem X1 {fp:List Addr} {h:Heap} {p:Addr × Obj} (hp:p∈BW fp h):p.1∈fp/\h.get? p.1=some p.2:=by
 obtain ⟨b,hb,e⟩:=List.mem_filterMap.mp hp;cases q:h.get? b with
 | none=>rw [q] at e;cases e
 | some o =>
   rw [q] at e;have e':(b,o)=p:=bh e;subst e';exact ⟨hb,q⟩
theorem Inv.pinned {pins:List (Addr × Obj)} {σ:St} {H:Hp} {s:Shared} {fp:List Addr} (I:Inv X pins σ H s) (hf:∀ b∈fp,tU X pins H b) (ho:∀ b∈fp,∃ o,s.heap.get? b=some o/\∀ v,o.data≠.cell v):Inv X (pins++BW fp s.heap) σ H s :=
 I.pins_of fun p hp=>(aY.mp hp).elim (fun z=>I.pin p (aV _ z)) fun z=>by
   obtain ⟨hb,e⟩:=X1 z;obtain ⟨f0,f1,f2,_⟩:=hf p.1 hb;obtain ⟨o,e',d⟩:=ho p.1 hb;rw [e] at e';cases e';exact ⟨e,f0,f1,f2,d⟩
theorem Inv.unpinned {pins pl:List (Addr × Obj)} {σ:St} {H:Hp} {s:Shared} (I:Inv X (pins++pl) σ H s):Inv X pins σ H s:=I.pins_of fun p hp=>I.pin p (aV _ (bp _ hp))
theorem gB {iter:Expr} {body:List Stmt} {wi:TI} {g:TG} {tb:TS} {pos:Pos} (hp:PassesOwn (model X.prog X.w) X.A X.env X.xe) (hc:X.calm=true) (hi:PI X tg iter wi) (hg:PG X tg g) (hb:PSs X body tb)
   (hs:∀ x,foldedSetIterable iter X.env x=pure x:=by intro _;rfl):PS X (.For tg iter body [] pos) (dTa wi g tb):=by
 intro pins s σ H D I h;refine wpAny_For (thn (hi pins s σ H _ I h) fun v s1 h1=>thn h1 fun itv s2 h2=>?_) hs;obtain ⟨it,fp,tn,J,H2,e,I2,T,st2,f2,W,⟨m0,w0⟩,turn⟩:=h2;subst e;have stat:∀ {H':Hp},(∀ b∈fp,H' b=none)->∀ b∈fp,tU X pins H' b:=fun hn b hb=>⟨hn b hb,(f2 b hb).2⟩;refine codeAny_forLoop_any (fun n s'=>∃ i σ' H',Inv X pins σ' H' s'/\tn i s'.heap/\(∀ b∈fp,H' b=none)/\W i n σ' H') ?_ m0 ⟨0,σ,H2,I2,st2,fun b hb=>(f2 b hb).1,w0⟩;rintro n s3 ⟨i,σ3,H3,I3,st3,fr3,w3⟩;rcases turn i n σ3 H3 w3 with ⟨stop,qn⟩|⟨go,N,hN,step⟩
 . refine fg hp (thn (T.done X rfl rfl rfl hc i pins s3 σ3 H3 X.xe I3 (stat fr3) st3 stop) fun r s4 ⟨hr,I4⟩=>?_);subst hr;exact fY ⟨σ3,H3,I4,qn⟩
 . refine fg hp (thn (T.item X rfl rfl rfl hc i pins s3 σ3 H3 X.xe I3 (stat fr3) st3 go) fun r s4 ⟨u,hr,h4⟩=>?_);subst hr;refine fg hp (thn h4 fun _ s5 ⟨x,H5,I5,r5,y5,st5,fr5⟩=>?_);have I5':=I5.pinned (stat fr5) (T.obj _ _ st5);refine fg hp (thn (hg _ s5 σ3 H5 x u _ I5' r5 (step x H5 y5)) fun _ s6 ⟨σ6,H6,I6,q6⟩=>?_);refine fg hp (thn (hb _ s6 σ6 H6 _ I6 q6) fun f s7 q7=>?_);have again:∀ {σ7:St} {H7:Hp},Inv X (pins++BW fp s5.heap) σ7 H7 s7->N σ7 H7->∃ m,m<n/\∃ i σ' H',Inv X pins σ' H' s7/\tn i s7.heap/\(∀ b∈fp,H' b=none)/\W i m σ' H':=fun {σ7 H7} I7 n7=>by
     obtain ⟨m',hm,w7⟩:=hN σ7 H7 n7;refine ⟨m',hm,i+1,σ7,H7,I7.unpinned,T.keep _ _ _ st5 fun b hb o e=>(I7.pin (b,o) (aV _ (aV _ (rR hb e)))).1,fun b hb=>?_,w7⟩;obtain ⟨o,e,d⟩:=T.obj _ _ st5 b hb;exact (I7.pin (b,o) (aV _ (aV _ (rR hb e)))).2.1
   cases f with
   | next=>obtain ⟨σ7,H7,I7,n7⟩:=q7;exact again I7 n7
   | cont=>obtain ⟨σ7,H7,I7,n7⟩:=q7;exact again I7 n7
   | brk=>obtain ⟨σ7,H7,I7,q7⟩:=q7;exact ⟨σ7,H7,I7.unpinned,q7⟩
   | ret v=>obtain ⟨x7,σ7,H7,I7,r7,q7⟩:=q7;exact ⟨x7,σ7,H7,I7.unpinned,r7,q7⟩
end
theorem Pr {K:PySem.W.Frag} {a:Addr} {xs:List V} {g:TG} {tb:TS} {D:Ends} {σ:St} {H:Hp} (Pv:Nat->St->Hp->Prop) (h0:Pv 0 σ H) (hl:∀ i σ H,i<=xs.length->Pv i σ H->SqL K H a xs)
   (hs:∀ i x σ H,xs[i]?=some x->Pv i σ H->g x σ H fun σ2 H2=>tb { D with nx:=Pv (i+1),ct:=Pv (i+1),bk:=D.nx } σ2 H2) (hd:∀ σ H,Pv xs.length σ H->D.nx σ H) :
   ∃ W:Nat->Nat->St->Hp->Prop,(∃ m,W 0 m σ H)/\∀ i m σ H,W i m σ H ->
     ((Itl K a).stop i H/\D.nx σ H)\/((Itl K a).go i H/\∃ N:St->Hp->Prop,(∀ σ' H',N σ' H'->∃ m',m'<m/\W (i+1) m' σ' H')/\∀ x H',(Itl K a).yld i H x H'->g x σ H' fun σ2 H2=>tb { D with nx:=N,ct:=N,bk:=D.nx } σ2 H2):=by
 refine ⟨fun i m σ H=>m=xs.length - i/\i<=xs.length/\Pv i σ H,⟨xs.length,by simp,bi _,h0⟩,?_⟩;rintro i m σ H ⟨rfl,hi,p⟩;have q:=hl i σ H hi p;by_cases hlt:i<xs.length
 . refine .inr ⟨⟨xs,xs[i],q,by simp [hlt]⟩,Pv (i+1),fun σ' H' p'=>⟨xs.length - (i+1),by omega,rfl,hlt,p'⟩,fun x H' y=>?_⟩;obtain ⟨e,y⟩:=y;subst e;exact hs i x σ _ (y xs q) p
 . have e:i=xs.length:=by omega
   subst e;exact .inl ⟨⟨xs,q,aA _⟩,hd σ H p⟩
theorem GH {K:PySem.W.Frag} {a:Addr} {xs:List V} {g:TG} {tb:TS} {D:Ends} {σ:St} {H:Hp} (Pv:Nat->St->Hp->Prop) (h0:Pv 0 σ H) (hl:∀ i σ H,i<=xs.length->Pv i σ H->SqT K H a xs)
   (hs:∀ i x σ H,xs[i]?=some x->Pv i σ H->g x σ H fun σ2 H2=>tb { D with nx:=Pv (i+1),ct:=Pv (i+1),bk:=D.nx } σ2 H2) (hd:∀ σ H,Pv xs.length σ H->D.nx σ H) :
   ∃ W:Nat->Nat->St->Hp->Prop,(∃ m,W 0 m σ H)/\∀ i m σ H,W i m σ H ->
     ((Itt K a).stop i H/\D.nx σ H)\/((Itt K a).go i H/\∃ N:St->Hp->Prop,(∀ σ' H',N σ' H'->∃ m',m'<m/\W (i+1) m' σ' H')/\∀ x H',(Itt K a).yld i H x H'->g x σ H' fun σ2 H2=>tb { D with nx:=N,ct:=N,bk:=D.nx } σ2 H2):=by
 refine ⟨fun i m σ H=>m=xs.length - i/\i<=xs.length/\Pv i σ H,⟨xs.length,by simp,bi _,h0⟩,?_⟩;rintro i m σ H ⟨rfl,hi,p⟩;have q:=hl i σ H hi p;by_cases hlt:i<xs.length
 . refine .inr ⟨⟨xs,xs[i],q,by simp [hlt]⟩,Pv (i+1),fun σ' H' p'=>⟨xs.length - (i+1),by omega,rfl,hlt,p'⟩,fun x H' y=>?_⟩;obtain ⟨e,y⟩:=y;subst e;exact hs i x σ _ (y xs q) p
 . have e:i=xs.length:=by omega
   subst e;exact .inl ⟨⟨xs,q,aA _⟩,hd σ H p⟩
theorem XM {lo:Int} {n:Nat} {g:TG} {tb:TS} {D:Ends} {σ:St} {H:Hp} (Pv:Nat->St->Hp->Prop) (h0:Pv 0 σ H)
   (hs:∀ i σ H,i<n->Pv i σ H->g (.int (lo+i)) σ H fun σ2 H2=>tb { D with nx:=Pv (i+1),ct:=Pv (i+1),bk:=D.nx } σ2 H2) (hd:∀ σ H,Pv n σ H->D.nx σ H) :
   ∃ W:Nat->Nat->St->Hp->Prop,(∃ m,W 0 m σ H)/\∀ i m σ H,W i m σ H ->
     ((Itr lo n).stop i H/\D.nx σ H)\/((Itr lo n).go i H/\∃ N:St->Hp->Prop,(∀ σ' H',N σ' H'->∃ m',m'<m/\W (i+1) m' σ' H')/\∀ x H',(Itr lo n).yld i H x H'->g x σ H' fun σ2 H2=>tb { D with nx:=N,ct:=N,bk:=D.nx } σ2 H2):=by
 refine ⟨fun i m σ H=>m=n - i/\i<=n/\Pv i σ H,⟨n,by simp,bi _,h0⟩,?_⟩;rintro i m σ H ⟨rfl,hi,p⟩;by_cases hlt:i<n
 . refine .inr ⟨hlt,Pv (i+1),fun σ' H' p'=>⟨n - (i+1),by omega,rfl,hlt,p'⟩,fun x H' y=>?_⟩;obtain ⟨e,y⟩:=y;subst e y;exact hs i σ _ hlt p
 . have e:i=n:=by omega
   subst e;exact .inl ⟨aA _,hd σ H p⟩
end L2
namespace L2
open PySem PySem.Spec PyProof.Rows
abbrev R2:=V->V->Hp->VK->Prop
def OpR (X:Cx) (f:Value->Value->Sem Value) (r:R2):Prop :=
 ∀ (pins:List (Addr × Obj)) (s:Shared) (σ:St) (H:Hp) (x y:V) (v u:Value) (Q:VK),Inv X pins σ H s->RelV x v->RelV y u->r x y H Q ->
   wpAny (model X.prog X.w) X.A (f v u) (EP X pins σ Q) X.xe s
def UnR (X:Cx) (f:Value->Sem Value) (r:V->Hp->VK->Prop):Prop :=
 ∀ (pins:List (Addr × Obj)) (s:Shared) (σ:St) (H:Hp) (x:V) (v:Value) (Q:VK),Inv X pins σ H s->RelV x v->r x H Q ->
   wpAny (model X.prog X.w) X.A (f v) (EP X pins σ Q) X.xe s
def vo (X:Cx) (f:Value) (r:List V->Hp->VK->Prop):Prop :=
 ∀ (pins:List (Addr × Obj)) (s:Shared) (σ:St) (H:Hp) (xs:List V) (us:List Value) (Q:VK),Inv X pins σ H s->Vals xs us->r xs H Q ->
   wpAny (model X.prog X.w) X.A (call f us) (EP X pins σ Q) X.xe s
def eQa (X:Cx) (r:V->Hp->(Bool->Hp->Prop)->Prop):Prop :=
 ∀ (pins:List (Addr × Obj)) (s:Shared) (σ:St) (H:Hp) (x:V) (v:Value) (Q:Bool->Hp->Prop),Inv X pins σ H s->RelV x v->r x H Q ->
   wpAny (model X.prog X.w) X.A (truthy v) (TP X pins σ Q) X.xe s
def tOp (r:R2) (ta tb:TE):TE:=fun σ H Q=>ta σ H fun x H1=>tb σ H1 fun y H2=>r x y H2 Q
def tUn (r:V->Hp->VK->Prop) (ta:TE):TE:=fun σ H Q=>ta σ H fun x H1=>r x H1 Q
def rI (C:Int->Int->Prop) (g:Int->Int->V):R2:=fun x y H Q=>∃ i j,x=.int i/\y=.int j/\C i j/\Q (g i j) H
def rI0 (g:Int->Int->V):R2:=fun x y H Q=>∃ i j,x=.int i/\y=.int j/\Q (g i j) H
def rU (g:Int->V):V->Hp->VK->Prop:=fun x H Q=>∃ i,x=.int i/\Q (g i) H
section
variable {X:Cx} {a b c:Expr} {ta tb tc:TE} {pos:Pos}
theorem Yu (ha:PE X a ta) (hb:PE X b tb) {pins:List (Addr × Obj)} {s:Shared} {σ:St} {H:Hp} {R:V->V->Hp->Prop} (I:Inv X pins σ H s)
   (h:ta σ H fun x H1=>tb σ H1 fun y H2=>R x y H2) {Q:Value->Shared->Prop} {f:Value->Value->Sem Value}
   (hf:∀ v u s2 x y H2,Inv X pins σ H2 s2->RelV x v->RelV y u->R x y H2->wpAny (model X.prog X.w) X.A (f v u) Q X.xe s2) :
   wpAny (model X.prog X.w) X.A (eval a X.env) (fun v s₁=>wpAny (model X.prog X.w) X.A (eval b X.env) (fun u s₂=>wpAny (model X.prog X.w) X.A (f v u) Q X.xe s₂) X.xe s₁) X.xe s:=by
 refine dg (ha pins s σ H _ I h) fun v s1 x H1 I1 r1 q1=>?_;refine dg (hb pins s1 σ H1 _ I1 q1) fun u s2 y H2 I2 r2 q2=>?_;exact hf v u s2 x y H2 I2 r1 r2 q2
theorem aX {op:Operator} {r:R2} (ho:OpR X (binaryOp op) r) (ha:PE X a ta) (hb:PE X b tb):PE X (.BinOp a op b pos) (tOp r ta tb):=by
 intro pins s σ H Q I h;exact wpAny_BinOp (Yu ha hb I h fun v u s2 x y H2 I2 rx ry q=>ho pins s2 σ H2 x y v u Q I2 rx ry q)
theorem GO {op:UnaryOp} {r:V->Hp->VK->Prop} (ho:UnR X (unaryOp op) r) (ha:PE X a ta):PE X (.UnaryOp op a pos) (tUn r ta):=by
 intro pins s σ H Q I h;exact UnaryOp_ (dg (ha pins s σ H _ I h) fun v s1 x H1 I1 r1 q1=>ho pins s1 σ H1 x v Q I1 r1 q1)
theorem opI {f:Value->Value->Sem Value} {C:Int->Int->Prop} {g:Int->Int->Int}
   (rule:∀ (i j:Int) (t u:Tok) (s:Shared) (Q:Value->Shared->Prop) (E:Value->Shared->Prop),C i j->Q (.int (g i j) s.toks) { s with toks:=s.toks+1 }->wpAny (model X.prog X.w) X.A (f (.int i t) (.int j u)) Q E s) :
   OpR X f (rI C fun i j=>.int (g i j)):=by
 intro pins s σ H x y v u Q I rx ry h;obtain ⟨i,j,rfl,rfl,hc,q⟩:=h;obtain ⟨t,rfl⟩:=rx;obtain ⟨t',rfl⟩:=ry;exact rule i j t t' s _ _ hc ⟨.int (g i j),H,I.tok _,⟨_,rfl⟩,q⟩
theorem dAa {f:Value->Value->Sem Value} {g:Int->Int->Int}
   (rule:∀ (i j:Int) (t u:Tok) (s:Shared) (Q:Value->Shared->Prop) (E:Value->Shared->Prop),Q (.int (g i j) s.toks) { s with toks:=s.toks+1 }->wpAny (model X.prog X.w) X.A (f (.int i t) (.int j u)) Q E s) :
   OpR X f (rI0 fun i j=>.int (g i j)):=by
 intro pins s σ H x y v u Q I rx ry h;obtain ⟨i,j,rfl,rfl,q⟩:=h;obtain ⟨t,rfl⟩:=rx;obtain ⟨t',rfl⟩:=ry;exact rule i j t t' s _ _ ⟨.int (g i j),H,I.tok _,⟨_,rfl⟩,q⟩
theorem Vl {f:Value->Value->Sem Value} {g:Int->Int->Bool}
   (rule:∀ (i j:Int) (t u:Tok) (s:Shared) (Q:Value->Shared->Prop) (E:Value->Shared->Prop),Q (.bool (g i j)) s->wpAny (model X.prog X.w) X.A (f (.int i t) (.int j u)) Q E s) :
   OpR X f (rI0 fun i j=>.bl (g i j)):=by
 intro pins s σ H x y v u Q I rx ry h;obtain ⟨i,j,rfl,rfl,q⟩:=h;obtain ⟨t,rfl⟩:=rx;obtain ⟨t',rfl⟩:=ry;exact rule i j t t' s _ _ ⟨.bl (g i j),H,I,rfl,q⟩
def dna (i j:Int):Prop:=0<j/\j<1073741824
def dCa (i j:Int):Prop:=0<=j/\j<=1000000/\i.natAbs<2^64
def CMul (i j:Int):Prop:=(-(2^64)<i/\i<2^64)\/(-(2^64)<j/\j<2^64)
theorem CMul.ok {i j:Int} (h:CMul i j):IntMulOk i j:=by
 rcases h with ⟨h1,h2⟩|⟨h1,h2⟩
 . exact .of_left (intBits_le_64 h1 h2)
 . exact .of_right (intBits_le_64 h1 h2)
theorem jt:OpR X (binaryOp .Add) (rI0 fun i j=>.int (i+j)):=dAa fun _ _ _ _ _ _ _ q=>add_int q
theorem pb:OpR X (binaryOp .Sub) (rI0 fun i j=>.int (i - j)):=dAa fun _ _ _ _ _ _ _ q=>sub_int q
theorem qU:OpR X (binaryOp .Mult) (rI CMul fun i j=>.int (i*j)):=opI fun _ _ _ _ _ _ _ hc q=>mul_int q hc.ok
theorem gO:OpR X (binaryOp .FloorDiv) (rI dna fun i j=>.int (i / j)):=opI fun i j _ _ _ _ _ hc q=>by
 have h1:(0:Int)<j:=hc.1;have h2:j<1073741824:=hc.2;exact floordiv_int (by omega) (by rw [me i (by omega)];exact q) (.inl (PyProof.noPylong_small (by omega)))
theorem dU:OpR X (binaryOp .Mod) (rI (fun _ j=>0<j) fun i j=>.int (i % j)):=opI fun i j _ _ _ _ _ hc q=>by
 have h1:(0:Int)<j:=hc;exact mod_int' (by omega) (by rw [Int.fmod_eq_emod_of_nonneg i (by omega)];exact q)
theorem tF:OpR X (binaryOp .Pow) (rI dCa fun i j=>.int (i^j.toNat)):=opI fun _ _ _ _ _ _ _ hc q=>pow_int_small hc.1 hc.2.1 hc.2.2 q
theorem unI {f:Value->Sem Value} {g:Int->Int}
   (rule:∀ (i:Int) (t:Tok) (s:Shared) (Q:Value->Shared->Prop) (E:Value->Shared->Prop),Q (.int (g i) s.toks) { s with toks:=s.toks+1 }->wpAny (model X.prog X.w) X.A (f (.int i t)) Q E s) :
   UnR X f (rU fun i=>.int (g i)):=by
 intro pins s σ H x v Q I rx h;obtain ⟨i,rfl,q⟩:=h;obtain ⟨t,rfl⟩:=rx;exact rule i t s _ _ ⟨.int (g i),H,I.tok _,⟨_,rfl⟩,q⟩
theorem B9:UnR X (unaryOp .USub) (rU fun i=>.int (-i)):=unI fun _ _ _ _ _ q=>neg_int q
end
def Ba:V->V->Bool
 | .non,.non=>true|.non,.int _=>true|.int _,.non=>true|.non,.bl _=>true|.bl _,.non=>true|.non,.str _=>true|.str _,.non=>true
 | .int _,.int _=>true|.bl _,.bl _=>true|.str _,.str _=>true|.byt _,.byt _=>true
 | .int _,.str _=>true|.str _,.int _=>true|.bl _,.str _=>true|.str _,.bl _=>true
 | _,_=>false
def rEq:R2:=fun x y H Q=>Ba x y=true/\Q (.bl (decide (x=y))) H
def rNe:R2:=fun x y H Q=>Ba x y=true/\Q (.bl (!decide (x=y))) H
theorem Tt {i j:Int}:decide (V.int i=V.int j)=(i == j):=by
 rw [da];simp
theorem XE {i j:Bool}:decide (V.bl i=V.bl j)=(i == j):=by
 rw [da];simp
theorem Ul {i j:Str}:decide (V.str i=V.str j)=(i == j):=by
 rw [da];simp
theorem TY {i j:Array UInt8}:decide (V.byt i=V.byt j)=(i.toList == j.toList):=by
 rw [da];cases i;cases j;simp
section
variable {X:Cx} {a b c:Expr} {ta tb tc:TE} {pos:Pos}
theorem eM {pins:List (Addr × Obj)} {σ:St} {H:Hp} {s:Shared} {Q:VK} {k k':Bool} (I:Inv X pins σ H s) (q:Q (.bl k) H) (e:k=k'):EP X pins σ Q (.bool k') s:=by
 subst e;exact ⟨.bl k,H,I,rfl,q⟩
theorem oB:OpR X (compareOp .Eq) rEq:=by
 intro pins s σ H x y v u Q I rx ry h;obtain ⟨hs,q⟩:=h;cases x with
 | non =>
   cases rx;cases y with
   | non=>cases ry;exact PySem.EqNone.eq_none_none (eM I q (by simp))
   | bl j=>cases ry;exact PySem.EqNone.eq_none_bool (eM I q (by simp))
   | int j=>obtain ⟨t',rfl⟩:=ry;exact PySem.EqNone.eq_none_int (eM I q (by simp))
   | str j=>obtain ⟨t',rfl⟩:=ry;exact PySem.EqNone.eq_none_str (eM I q (by simp))
   | _=>exact absurd (show false=true from hs) aP
 | bl i =>
   cases rx;cases y with
   | non=>cases ry;exact PySem.EqNone.eq_bool_none (eM I q (by simp))
   | bl j=>cases ry;exact eq_bool (eM I q XE)
   | str j=>obtain ⟨t',rfl⟩:=ry;exact PySem.EqMixed.eq_bool_str (eM I q (by simp))
   | _=>exact absurd (show false=true from hs) aP
 | int i =>
   obtain ⟨t,rfl⟩:=rx;cases y with
   | non=>cases ry;exact PySem.EqNone.eq_int_none (eM I q (by simp))
   | int j=>obtain ⟨t',rfl⟩:=ry;exact eq_int (eM I q Tt)
   | str j=>obtain ⟨t',rfl⟩:=ry;exact PySem.EqMixed.eq_int_str (eM I q (by simp))
   | _=>exact absurd (show false=true from hs) aP
 | str i =>
   obtain ⟨t,rfl⟩:=rx;cases y with
   | non=>cases ry;exact PySem.EqNone.eq_str_none (eM I q (by simp))
   | bl j=>cases ry;exact PySem.EqMixed.eq_str_bool (eM I q (by simp))
   | int j=>obtain ⟨t',rfl⟩:=ry;exact PySem.EqMixed.eq_str_int (eM I q (by simp))
   | str j=>obtain ⟨t',rfl⟩:=ry;exact eq_str (eM I q Ul)
   | _=>exact absurd (show false=true from hs) aP
 | byt i =>
   obtain ⟨t,rfl⟩:=rx;cases y with
   | byt j=>obtain ⟨t',rfl⟩:=ry;exact PySem.W.eq_bytes (eM I q TY)
   | _=>exact absurd (show false=true from hs) aP
 | _=>cases y <;> exact absurd (show false=true from hs) aP
theorem yw:OpR X (compareOp .NotEq) rNe:=by
 intro pins s σ H x y v u Q I rx ry h;obtain ⟨hs,q⟩:=h;cases x with
 | non =>
   cases rx;cases y with
   | non=>cases ry;exact PySem.EqNone.ne_none_none (eM I q (by simp))
   | bl j=>cases ry;exact PySem.EqNone.ne_none_bool (eM I q (by simp))
   | int j=>obtain ⟨t',rfl⟩:=ry;exact PySem.EqNone.ne_none_int (eM I q (by simp))
   | str j=>obtain ⟨t',rfl⟩:=ry;exact PySem.EqNone.ne_none_str (eM I q (by simp))
   | _=>exact absurd (show false=true from hs) aP
 | bl i =>
   cases rx;cases y with
   | non=>cases ry;exact PySem.EqNone.ne_bool_none (eM I q (by simp))
   | bl j=>cases ry;exact ne_bool (eM I q (congrArg not XE))
   | str j=>obtain ⟨t',rfl⟩:=ry;exact PySem.EqMixed.ne_bool_str (eM I q (by simp))
   | _=>exact absurd (show false=true from hs) aP
 | int i =>
   obtain ⟨t,rfl⟩:=rx;cases y with
   | non=>cases ry;exact PySem.EqNone.ne_int_none (eM I q (by simp))
   | int j=>obtain ⟨t',rfl⟩:=ry;exact ne_int (eM I q (congrArg not Tt))
   | str j=>obtain ⟨t',rfl⟩:=ry;exact PySem.EqMixed.ne_int_str (eM I q (by simp))
   | _=>exact absurd (show false=true from hs) aP
 | str i =>
   obtain ⟨t,rfl⟩:=rx;cases y with
   | non=>cases ry;exact PySem.EqNone.ne_str_none (eM I q (by simp))
   | bl j=>cases ry;exact PySem.EqMixed.ne_str_bool (eM I q (by simp))
   | int j=>obtain ⟨t',rfl⟩:=ry;exact PySem.EqMixed.ne_str_int (eM I q (by simp))
   | str j=>obtain ⟨t',rfl⟩:=ry;exact ne_str (eM I q (congrArg not Ul))
   | _=>exact absurd (show false=true from hs) aP
 | byt i =>
   obtain ⟨t,rfl⟩:=rx;cases y with
   | byt j=>obtain ⟨t',rfl⟩:=ry;exact PySem.W.ne_bytes (eM I q (congrArg not TY))
   | _=>exact absurd (show false=true from hs) aP
 | _=>cases y <;> exact absurd (show false=true from hs) aP
theorem Ah:OpR X (compareOp .Lt) (rI0 fun i j=>.bl (decide (i<j))):=Vl fun _ _ _ _ _ _ _ q=>lt_int q
theorem KQ:OpR X (compareOp .LtE) (rI0 fun i j=>.bl (decide (i<=j))):=Vl fun _ _ _ _ _ _ _ q=>le_int q
theorem KI:OpR X (compareOp .Gt) (rI0 fun i j=>.bl (decide (j<i))):=Vl fun _ _ _ _ _ _ _ q=>gt_int q
theorem yc:OpR X (compareOp .GtE) (rI0 fun i j=>.bl (decide (j<=i))):=Vl fun _ _ _ _ _ _ _ q=>ge_int q
theorem b7 (b:Expr) {op:CmpOp} (h:op≠.In:=by decide) (h2:op≠.NotIn:=by decide):behindInMarks op b=false:=by
 have e1:(op == CmpOp.In)=false:=by cases op <;> first|rfl|exact absurd rfl h
 have e2:(op == CmpOp.NotIn)=false:=by cases op <;> first|rfl|exact absurd rfl h2
 cases b <;> simp [behindInMarks,e1,e2]
theorem mP {op:CmpOp} {r:R2} (ho:OpR X (compareOp op) r) (ha:PE X a ta) (hb:PE X b tb) (hm:behindInMarks op b=false):PE X (.Compare a [op] [b] pos) (tOp r ta tb):=by
 intro pins s σ H Q I h;exact wpAny_Compare1 (Yu ha hb I h fun v u s2 x y H2 I2 rx ry q=>ho pins s2 σ H2 x y v u Q I2 rx ry q) hm
def OT (t:TE):TT:=fun σ H Q=>t σ H fun x H'=>∃ k,x=.bl k/\Q k H'
theorem cn {op:CmpOp} {r:R2} (ho:OpR X (compareOp op) r) (ha:PE X a ta) (hb:PE X b tb) (hm:behindInMarks op b=false):PT X (.Compare a [op] [b] pos) (OT (tOp r ta tb)):=by
 intro pins s σ H Q I h;refine wpAny_isTrue_Compare1 (dg (ha pins s σ H _ I h) fun v s1 x H1 I1 r1 q1=>dg (hb pins s1 σ H1 _ I1 q1) fun u s2 y H2 I2 r2 q2 =>
   dg (ho pins s2 σ H2 x y v u _ I2 r1 r2 q2) fun c s3 z H3 I3 r3 ⟨k,e,q3⟩=>?_) hm
 subst e;cases r3;exact cw ⟨H3,I3,q3⟩
def Lf (r r':R2) (ta tb tc:TE):TE:=fun σ H Q=>ta σ H fun x H1=>tb σ H1 fun y H2=>r x y H2 fun z H3=>∃ k,z=.bl k /\
 (if k=true then tc σ H3 fun w' H4=>r' y w' H4 Q else Q (.bl false) H3)
theorem bka {op op':CmpOp} {r r':R2} (ho:OpR X (compareOp op) r) (ho':OpR X (compareOp op') r') (ha:PE X a ta) (hb:PE X b tb) (hc:PE X c tc)
   (hm:lastMarks [op,op'] [b,c]=false:=by with_unfolding_all rfl):PE X (.Compare a [op,op'] [b,c] pos) (Lf r r' ta tb tc):=by
 intro pins s σ H Q I h;refine Compare_chain (dg (ha pins s σ H _ I h) fun v s1 x H1 I1 r1 q1=>chain_link (dg (hb pins s1 σ H1 _ I1 q1) fun u s2 y H2 I2 r2 q2 =>
   dg (ho pins s2 σ H2 x y v u _ I2 r1 r2 q2) fun d s3 z H3 I3 r3 ⟨k,e,q3⟩=>?_)) hm
 subst e;cases r3;refine cw ?_;cases k with
 | false=>exact ite_ff ⟨.bl false,H3,I3,rfl,q3⟩
 | true=>exact ite_tt (chain_last (thn (hc pins s3 σ H3 _ I3 q3) fun w' s4 ⟨z',H4,I4,r4,q4⟩=>ho' pins s4 σ H4 y z' u w' Q I4 r2 r4 q4))
theorem Pj {op op':CmpOp} {r r':R2} (ho:OpR X (compareOp op) r) (ho':OpR X (compareOp op') r') (ha:PE X a ta) (hb:PE X b tb) (hc:PE X c tc)
   (hm:lastMarks [op,op'] [b,c]=false:=by with_unfolding_all rfl):PT X (.Compare a [op,op'] [b,c] pos) (OT (Lf r r' ta tb tc)):=by
 intro pins s σ H Q I h;refine isTrue_chain (dg (ha pins s σ H _ I h) fun v s1 x H1 I1 r1 q1=>test_link (dg (hb pins s1 σ H1 _ I1 q1) fun u s2 y H2 I2 r2 q2 =>
   dg (ho pins s2 σ H2 x y v u _ I2 r1 r2 q2) fun d s3 z H3 I3 r3 ⟨k,e,q3⟩=>?_)) hm
 subst e;cases r3;refine cw ?_;cases k with
 | false =>
   obtain ⟨k',e',q'⟩:=q3;cases e';exact ite_ff ⟨H3,I3,q'⟩
 | true =>
   refine ite_tt (test_last (thn (hc pins s3 σ H3 _ I3 q3) fun w' s4 ⟨z',H4,I4,r4,q4⟩=>thn (ho' pins s4 σ H4 y z' u w' _ I4 r2 r4 q4) fun d' s5 ⟨z2,H5,I5,r5,k2,e2,q5⟩=>?_));subst e2;cases r5;exact cw ⟨H5,I5,q5⟩
def dFa (K:PySem.W.Frag) (x:V) (H:Hp) (k:Bool):Prop :=
 match x with
 | .non=>k=false
 | .bl b=>k=b
 | .int i=>k=(i != 0)
 | .str y=>y.length<=sizeLine/\k=((y.length:Int) != 0)
 | .byt y=>y.size<=sizeLine/\k=((y.size:Int) != 0)
 | .ref p=>(∃ xs,SqL K H p xs/\k=!xs.isEmpty)\/(∃ xs,SqT K H p xs/\k=!xs.isEmpty)\/∃ kvs,H p=some (.dK kvs)/\k=!kvs.isEmpty
 | _=>False
theorem Vi {κ:Type} {kvs:List (κ × V)} {vs:List (κ × Value)} (r:KV kvs vs):(!vs.isEmpty)=!kvs.isEmpty:=by
 cases r <;> rfl
theorem JZ {xs:List V} {its:List Value} (r:Vals xs its):(!its.toArray.isEmpty)=!xs.isEmpty:=by
 cases r <;> simp
theorem zE:(sizeLine:Nat)<2^63:=by rw [sizeLine_eq];decide
theorem dva:eQa X (fun x H Q=>∃ k,dFa X.K x H k/\Q k H):=by
 intro pins s σ H x v Q I rx h;obtain ⟨k,e,q⟩:=h;have hl:=zE;have hs:sizeLine=16777216:=sizeLine_eq;cases x with
 | non =>
   cases rx;have e':k=false:=e;subst e';exact truthy_none ⟨H,I,q⟩
 | bl b =>
   cases rx;have e':k=b:=e;subst e';exact cw ⟨H,I,q⟩
 | int i =>
   obtain ⟨t,rfl⟩:=rx;have e':k=(i != 0):=e;subst e';exact PySem.P.truthy_int ⟨H,I,q⟩
 | str y =>
   obtain ⟨t,rfl⟩:=rx;obtain ⟨hy,e'⟩:y.length<=sizeLine/\k=((y.length:Int) != 0):=e;subst e';exact PySem.P.truthy_str (by omega) ⟨H,I.tok _,q⟩
 | byt y =>
   obtain ⟨t,rfl⟩:=rx;obtain ⟨hy,e'⟩:y.size<=sizeLine/\k=((y.size:Int) != 0):=e;subst e';exact PySem.W.truthy_bytes (by omega) ⟨H,I.tok _,q⟩
 | ref p =>
   cases rx;have e':(∃ xs,SqL X.K H p xs/\k=!xs.isEmpty)\/(∃ xs,SqT X.K H p xs/\k=!xs.isEmpty)\/∃ kvs,H p=some (.dK kvs)/\k=!kvs.isEmpty:=e;rcases e' with ⟨xs,hx,e'⟩|⟨xs,hx,e'⟩|⟨kvs,hx,e'⟩
   . subst e';obtain ⟨its,r,pl,hz⟩:=I.list hx;have hlen:=r.length;exact wpAny_truthy_list pl.isList (by simp only [aG];omega) ⟨H,I.tok _,by rw [JZ r];exact q⟩
   . subst e';obtain ⟨its,r,pl,hz⟩:=I.tuple hx;have hlen:=r.length;exact truthy_tuple pl (by simp only [aG];omega) ⟨H,I.tok _,by rw [JZ r];exact q⟩
   . subst e';obtain ⟨hz,hS,vs,r,m⟩:kvs.length<=sizeLine/\(p == sysModules)=false/\∃ vs,KV kvs vs/\s.heap.DictOf (jb X.prog X.w) p vs:=I.hok p _ hx;have hlen:kvs.length=vs.length:=Paired.length r;exact wpAny_truthy_dict hS m (by omega) ⟨H,I.tok _,by rw [Vi r];exact q⟩
 | _=>exact (show False from e).elim
theorem IT (ha:PE X a ta) (he:∀ whole,isTrue a X.env whole=(do let v <- whole;standAt a.pos;holding [v] (truthy v))) :
   PT X a (fun σ H Q=>ta σ H fun x H'=>∃ k,dFa X.K x H' k/\Q k H'):=by
 intro pins s σ H Q I h;exact isTrue_plain (dg (ha pins s σ H _ I h) fun v s1 x H1 I1 r1 q1=>dva pins s1 σ H1 x v Q I1 r1 q1) (he _)
theorem Ax {x:V} {us:List Value} (r:Vals [x] us):∃ u,us=[u]/\RelV x u:=by
 cases r with
 | cons r1 r2=>cases r2;exact ⟨_,rfl,r1⟩
theorem VB {x y:V} {us:List Value} (r:Vals [x,y] us):∃ u w',us=[u,w']/\RelV x u/\RelV y w':=by
 cases r with
 | cons r1 r2 =>
   cases r2 with
   | cons r3 r4=>cases r4;exact ⟨_,_,rfl,r1,r3⟩
end
end L2
namespace L2
open PySem PySem.Spec PyProof.Rows
structure ObjM (h:Heap) (x dx C:Addr) (mA:Str->Option Value):Prop where
 obj:h.get? x=some (PySem.W.instObj C dx)
 ns:h.Ns1 dx mA
 ne:dx≠x
theorem X0 {h:Heap} {dx:Addr} {mA:Str->Option Value} (n:h.Ns1 dx mA):∃ od,h.get? dx=some od/\∀ name,PySem.W.lookIn name od=some (mA name):=by
 obtain ⟨o,es,ep,ho,hd,hk,_,hm⟩:=n;refine ⟨o,ho,fun name=>?_⟩;have e:=hm name;unfold nsFind findBy at e;rw [<- Array.find?_toList] at e;unfold PySem.W.lookIn;rw [hd];dsimp only;split
 . rename_i y q
   rw [q] at e;exact congrArg some e
 . rename_i q
   rw [q] at e;have a:es.toList.any (·.refKey)=false:=by
     rw [List.any_eq_false];intro y hy;obtain ⟨z,t,hkey⟩:=hk y (Array.mem_toList_iff.mp hy);simp [DictEntry.refKey,hkey]
   have a':¬ es.toList.any (·.refKey)=true:=by rw [a];exact aP
   rw [aj a'];exact congrArg some e
theorem ObjM.look {h:Heap} {x dx C:Addr} {mA:Str->Option Value} (I:ObjM h x dx C mA):∃ od,PySem.W.InstAt h x (PySem.W.instObj C dx) C (some od)/\∀ name,PySem.W.lookIn name od=some (mA name) :=
 let ⟨od,ho,hl⟩:=X0 I.ns
 ⟨od,⟨I.obj,rfl,rfl,ho⟩,hl⟩
section
variable {prog:Program} {w:World} {A:Around} {E:Value->Shared->Prop} {s:Shared} {K:PySem.W.Frag} {x dx C f:Addr} {mA:Str->Option Value} {name:Str} {v:Value}
theorem bRa {expr:Bool} {Q:Value->Shared->Prop} (X:K.In s.heap) (I:ObjM s.heap x dx C mA) (hg:PySem.W.plainGet K C name=true) (hh:PySem.W.hasDictIn K C=true)
   (ha:PySem.W.findIn K (.ref C) name=some none) (hv:mA name=some v) (hv':PySem.W.handedIn v=true) (h:Q v { s with toks:=s.toks+1 }) :
   wpAny (model prog w) A (getAttr (.ref x) name expr) Q E s:=by
 obtain ⟨od,J,hl⟩:=I.look;exact PySem.W.get_value X J (PySem.W.plainGet_of hg).1 (PySem.W.findObj_own hh ha rfl (by rw [hl,hv])) hv' h
theorem b8a {ns:List Str} {Q:Unit->Shared->Prop} (X:K.In s.heap) (I:ObjM s.heap x dx C mA)
   (hs:PySem.W.findIn K (.ref C) "__setattr__"=some (some (.builtin "object.__setattr__"))) (hp:PySem.W.plainOver K C=true) (ht:PySem.W.takerIn K C name=some none) (hh:PySem.W.hasDictIn K C=true)
   (hw:PySem.Within mA ns) (hsz:ns.length<=sizeLine)
   (h:∀ h',ObjM h' x dx C (fun y=>if y=name then some v else mA y)->Heap.SameBut dx s.heap h'->Q () { s with heap:=h',toks:=s.toks+2 }) :
   wpAny (model prog w) A (setAttr (.ref x) name v) Q E s:=by
 obtain ⟨od,J,hl⟩:=I.look;refine PySem.W.set_plain X J hs (PySem.W.osa_open (s:={ s with toks:=s.toks+1 }) (r:=none) X J hp ht fun b=>?_);obtain ⟨cd,hc,hd'⟩:=mG hh;have hx:s.heap.get? x=some ⟨.ref C,some dx,.plain,#[]⟩:=I.obj;refine aa (ao (aa (aa (wpAny_loadPart hx (aa (PySem.W.Looks.here (s:={ s with toks:=s.toks+1 }) (kN X hc) ?_))))));rw [hd'];refine ao (a:=some dx) (aa (ao (aa ?_)));refine wpAny_nsSet1 (s:={ s with toks:=s.toks+1 }) I.ns fun h' hn2 hs2=>?_;obtain ⟨oD,esD,epD,hoD,hdD,hcD⟩:=hn2.count (PySem.Within.cons name v hw);refine aa (wpAny_lookBehind hoD (by rw [hdD];exact pastItsLine_dict (bP hcD (by rw [aQ];omega))) ?_);exact ao (h _ ⟨(hs2.2 _ (Ne.symm I.ne)).trans I.obj,hn2,I.ne⟩ hs2)
theorem aga {R:Result->Shared->Prop} {vs:List Value} {kw:List (Str × Value)} (X:K.In s.heap) (hm:PySem.W.makesIn K C=true)
   (hi:PySem.W.findIn K (.ref C) "__init__"=some (some (.ref f))) (hf:PySem.W.typeIn K (.ref f)=some (.type "function"))
   (h:codeAny (model prog w) (A.under (.builtin "type.__call__" ⟨.ref C::vs,kw⟩)) (.call (.ref f) ⟨.ref (s.heap.objs.size+1)::vs,kw⟩) (PySem.W.InitBack (s.heap.objs.size+1) R)
     { s with heap:=(s.heap.push PySem.W.emptyDict).push (PySem.W.instObj C s.heap.objs.size) }) :
   codeAny (model prog w) A (.call (.ref C) ⟨vs,kw⟩) R s:=by
 obtain ⟨hh,g,d,t,os⟩:=s;exact PySem.W.make_core (PySem.W.makes_of X hm) (pj X hi) (fun self=>PySem.W.bind_fn X self hf) (.inl rfl) h
end
def qw (f:Str) (v:V):List (Str × V)->List (Str × V)
 | []=>[(f,v)]
 | (g,x)::r=>if g=f then (g,v)::r else (g,x)::qw f v r
theorem sX (f g:Str) (v:V):∀ fs:List (Str × V),(qw f v fs).lookup g=if g=f then some v else fs.lookup g
 | []=>by
   show List.lookup g [(f,v)]=_;by_cases h:g=f
   . have hb:(g == f)=true:=ja.mpr h;simp only [List.lookup,hb,am h]
   . have hb:(g == f)=false:=beq_eq_false_iff_ne.mpr h;simp only [List.lookup,hb,aj h]
 | (k,x)::r=>by
   have ih:=sX f g v r;rw [show qw f v ((k,x)::r)=(if k=f then (k,v)::r else (k,x)::qw f v r) from rfl];by_cases hk:k=f
   . rw [am hk];by_cases h:g=k
     . have hb:(g == k)=true:=ja.mpr h;simp only [List.lookup,hb,am (h.trans hk)]
     . have hb:(g == k)=false:=beq_eq_false_iff_ne.mpr h;simp only [List.lookup,hb,aj (fun e:g=f=>h (e.trans hk.symm))]
   . rw [aj hk];by_cases h:g=k
     . have hb:(g == k)=true:=ja.mpr h;simp only [List.lookup,hb,aj (fun e:g=f=>hk (h.symm.trans e))]
     . have hb:(g == k)=false:=beq_eq_false_iff_ne.mpr h;simp only [List.lookup,hb];exact ih
theorem EY (f:Str) (v:V):∀ fs:List (Str × V),f∈(qw f v fs).map (·.1)/\∀ g,g∈fs.map (·.1)->g∈(qw f v fs).map (·.1)
 | []=>⟨by simp [qw],fun g h=>by simp at h⟩
 | (k,x)::r=>by
   obtain ⟨i1,i2⟩:=EY f v r;rw [show qw f v ((k,x)::r)=(if k=f then (k,v)::r else (k,x)::qw f v r) from rfl];by_cases hk:k=f
   . rw [am hk];subst hk;exact ⟨by simp,fun g h=>by simpa using h⟩
   . rw [aj hk];refine ⟨?_,fun g h=>?_⟩
     . rw [aW];exact aL _ i1
     . rw [aW] at h ⊢;rcases az.mp h with e|e
       . exact az.mpr (.inl e)
       . exact aL _ (i2 g e)
theorem Il (f:Str) (v:V):∀ fs:List (Str × V),(qw f v fs).length<=fs.length+1
 | []=>by simp [qw]
 | (k,x)::r=>by
   have ih:=Il f v r;rw [show qw f v ((k,x)::r)=(if k=f then (k,v)::r else (k,x)::qw f v r) from rfl];by_cases hk:k=f
   . rw [am hk,aQ,aQ];omega
   . rw [aj hk,aQ,aQ];omega
theorem RelO.some_of {v:V} {o:Option Value} (r:RelO (some v) o):∃ u,o=some u/\RelV v u:=by
 cases o with
 | none=>exact (show False from r).elim
 | some u=>exact ⟨u,rfl,r⟩
theorem Xb {v:V} {u:Value} (r:RelV v u):PySem.W.handedIn u=true:=by
 cases v with
 | non=>cases (show u=Value.none from r);rfl
 | bl b=>cases (show u=Value.bool b from r);rfl
 | int i=>obtain ⟨t,e⟩:=(show ∃ t,u=Value.int i t from r);cases e;rfl
 | str x=>obtain ⟨t,e⟩:=(show ∃ t,u=Value.str x t from r);cases e;rfl
 | byt b=>obtain ⟨t,e⟩:=(show ∃ t,u=Value.bytes b t from r);cases e;rfl
 | flt b=>obtain ⟨t,e⟩:=(show ∃ t,u=Value.float b t from r);cases e;rfl
 | ref a=>cases (show u=Value.ref a from r);rfl
 | ty n=>cases (show u=Value.type n from r);rfl
section
variable {P:Program} {w:World} {H H':Hp} {h h':Heap} {a C dx:Addr} {fs fs':List (Str × V)}
theorem LQ (hok:HOk P w H h) (e:H a=some (.ins C dx fs)):∃ mA,ObjM h a dx C mA/\(∀ f,RelO (fs.lookup f) (mA f))/\PySem.Within mA (fs.map (·.1))/\fs.length<=1000/\H dx=some (.own a):=by
 obtain ⟨d,z,ne,ob,mA,n,r,q⟩:=(show ObjOk P w H h a (.ins C dx fs) from hok a _ e);exact ⟨mA,⟨ob,n,ne⟩,r,q,z,d⟩
end
structure Cls (K:PySem.W.Frag) (C:Addr):Prop where
 pg:PySem.W.plainGet K C Str.empty=true
 hd:PySem.W.hasDictIn K C=true
 po:PySem.W.plainOver K C=true
 sa:PySem.W.findIn K (.ref C) "__setattr__"=some (some (.builtin "object.__setattr__"))
theorem Cls.get {K:PySem.W.Frag} {C:Addr} (c:Cls K C) (f:Str):PySem.W.plainGet K C f=true:=c.pg
def NoAttr (K:PySem.W.Frag) (C:Addr) (f:Str):Prop:=PySem.W.findIn K (.ref C) f=some none
theorem NoAttr.taker {K:PySem.W.Frag} {C:Addr} {f:Str} (n:NoAttr K C f):PySem.W.takerIn K C f=some none:=by
 unfold PySem.W.takerIn;rw [show PySem.W.findIn K (.ref C) f=some none from n]
 rfl
section
variable {X:Cx} {pins:List (Addr × Obj)} {σ:St} {H:Hp} {s:Shared} {a C dx:Addr} {fs:List (Str × V)} {f:Str} {v:V} {A:Around} {E:Value->Shared->Prop}
theorem UQ {b:Bool} {Q:Value->Shared->Prop} (I:Inv X pins σ H s) (e:H a=some (.ins C dx fs)) (c:Cls X.K C) (n:NoAttr X.K C f) (l:fs.lookup f=some v)
   (h:∀ u s',Inv X pins σ H s'->RelV v u->Q u s'):wpAny (model X.prog X.w) A (getAttr (.ref a) f b) Q E s:=by
 obtain ⟨mA,O,r,_,_,_⟩:=LQ I.hok e;obtain ⟨u,hu,ru⟩:=RelO.some_of (v:=v) (o:=mA f) (by rw [<- l];exact r f);exact bRa I.kIn O (c.get f) c.hd n hu (Xb ru) (h u _ (I.tok _) ru)
theorem VR {y:V} {u:Value} {Q:Unit->Shared->Prop} (I:Inv X pins σ H s) (e:H a=some (.ins C dx fs)) (c:Cls X.K C) (n:NoAttr X.K C f) (hl:fs.length<1000) (ry:RelV y u)
   (h:∀ s',Inv X pins σ (upd H a (.ins C dx (qw f y fs))) s'->Q () s'):wpAny (model X.prog X.w) A (setAttr (.ref a) f u) Q E s:=by
 obtain ⟨mA,O,r,wi,_,ho⟩:=LQ I.hok e;have hz:(fs.map (·.1)).length<=sizeLine:=by rw [ak,sizeLine_eq];omega
 refine b8a I.kIn O c.sa c.po n.taker c.hd wi hz fun h' O' sb=>h _ ?_;have hd:∃ o,h'.get? dx=some o:=let ⟨o,_,_,e',_⟩:=O'.ns;⟨o,e'⟩;refine I.write (x:=a) (e:=dx) (by rw [e];exact True.intro) (.inr ho) (fun b q hb z=>(sb.2 b hb).trans z) hd ?_;refine ⟨by rw [aR O.ne];exact ho,?_,O.ne,O'.obj,_,O'.ns,fun g=>?_,fun g hg=>?_⟩
 . have:=Il f y fs;omega
 . show RelO ((qw f y fs).lookup g) (if g=f then some u else mA g);rw [sX];by_cases q:g=f
   . rw [am q,am q];exact ry
   . rw [aj q,aj q];exact r g
 . by_cases q:g=f
   . rw [q];exact (EY f y fs).1
   . refine (EY f y fs).2 g (wi g fun z=>hg ?_);show (if g=f then some u else mA g)=none;rw [aj q];exact z
theorem Inv.made (I:Inv X pins σ H s):Inv X pins σ (upd (upd H s.heap.objs.size (.own (s.heap.objs.size+1))) (s.heap.objs.size+1) (.ins C s.heap.objs.size []))
   { s with heap:=(s.heap.push PySem.W.emptyDict).push (PySem.W.instObj C s.heap.objs.size) }:=by
 have e1:(s.heap.push PySem.W.emptyDict).get? s.heap.objs.size=some PySem.W.emptyDict:=aJ s.heap rfl;have e2:((s.heap.push PySem.W.emptyDict).push (PySem.W.instObj C s.heap.objs.size)).get? (s.heap.objs.size+1)=some (PySem.W.instObj C s.heap.objs.size):=by
   have:=aJ (s.heap.push PySem.W.emptyDict) (o:=PySem.W.instObj C s.heap.objs.size) rfl
   rwa [cm] at this
 have e3:(s.heap.push PySem.W.emptyDict).Ns s.heap.objs.size (fun _=>none):=⟨PySem.W.emptyDict,#[],_,e1,rfl,(fun e he=>absurd he (by simp)),fun _=>rfl⟩;have I1:=I.laid (a:=s.heap.objs.size) (o:=.own (s.heap.objs.size+1)) (h':=s.heap.push PySem.W.emptyDict) (t':=s.toks) (fun b u q=>ap _ q) (aA _) ⟨_,e1⟩;refine I1.laid (a:=s.heap.objs.size+1) (o:=.ins C s.heap.objs.size []) (t':=s.toks) (fun b u q=>ap _ q) (Nat.le_of_eq (cm _ _)) ?_;have ne:s.heap.objs.size≠s.heap.objs.size+1:=aE (jm _);refine ⟨by rw [aR ne,aq],bi _,ne,e2,fun _=>none,(Heap.Ns1.of_empty e3).at fun o q=>ap _ q,fun _=>True.intro,fun y hy=>absurd rfl hy⟩
theorem cDa {prog:Program} {w:World} {env:Env} {e:Expr} {f:Str} {pos:Pos} {s:Shared} {Q:Value->Shared->Prop} (hb:attributeBase e f env (eval e env)=eval e env)
   (h:wpAny (model prog w) A (eval e env) (fun o s₁=>wpAny (model prog w) A (getAttr o f true) Q E s₁) E s):wpAny (model prog w) A (eval (.Attribute e f pos) env) Q E s :=
 Attribute_any_ h (by rw [arm_eval_Attribute,hb])
end
def bja (K:PySem.W.Frag) (ta:TE) (f:Str):TE:=fun σ H Q=>ta σ H fun x H1=>∃ a C dx fs v,x=.ref a/\H1 a=some (.ins C dx fs)/\Cls K C/\NoAttr K C f/\fs.lookup f=some v/\Q v H1
def ZU (K:PySem.W.Frag) (ta tv:TE) (f:Str):TS:=fun D σ H=>tv σ H fun y H1=>ta σ H1 fun x H2=>∃ a C dx fs,x=.ref a/\H2 a=some (.ins C dx fs)/\Cls K C/\NoAttr K C f/\fs.length<1000 /\
 D.nx σ (upd H2 a (.ins C dx (qw f y fs)))
section
variable {X:Cx} {o e value:Expr} {f:Str} {pos pos' tpos:Pos} {ta tv:TE}
theorem wV (he:PE X e ta) (hb:attributeBase e f X.env (eval e X.env)=eval e X.env):PE X (.Attribute e f pos) (bja X.K ta f):=by
 intro pins s σ H Q I h;refine cDa hb (dg (he pins s σ H _ I h) fun u s1 x H1 I1 rx ⟨a,C,dx,fs,v,ex,ea,c,n,l,q⟩=>?_);subst ex;obtain rfl:u=Value.ref a:=rx;exact UQ I1 ea c n l fun u' s2 I2 ru=>⟨v,H1,I2,ru,q⟩
theorem XJ (ha:PE X o ta) (hv:PE X value tv) (hs:swapsWith value (some (.Attribute o f pos')) pos.line X.env=pure false):PS X (.Assign [.Attribute o f pos'] value pos) (ZU X.K ta tv f):=by
 intro pins s σ H D I h;refine plainObj_wpAny_Assign_Attribute (dg (hv pins s σ H _ I h) fun u s1 y H1 I1 ry q=>dg (ha pins s1 σ H1 _ I1 q) fun ov s2 x H2 I2 rx ⟨a,C,dx,fs,ex,ea,c,n,l,q2⟩=>?_) hs;subst ex;obtain rfl:ov=Value.ref a:=rx;exact VR I2 ea c n l ry fun s3 I3=>⟨σ,_,I3,q2⟩
end
section
variable {X:Cx} {pins:List (Addr × Obj)} {σ:St} {H:Hp} {s:Shared} {A:Around} {E:Value->Shared->Prop} {Q:Value->Shared->Prop} {c:Value} {b:Bool}
inductive TyOf (K:PySem.W.Frag) (H:Hp):V->Value->Prop where
 | non:TyOf K H .non (.type "NoneType")
 | bl (x:Bool):TyOf K H (.bl x) (.type "bool")
 | int (i:Int):TyOf K H (.int i) (.type "int")
 | str (x:Str):TyOf K H (.str x) (.type "str")
 | flt (x:UInt64):TyOf K H (.flt x) (.type "float")
 | lst {a:Addr} {xs:List V} (e:H a=some (.lst xs)):TyOf K H (.ref a) (.type "list")
 | frz {a:Addr} {o:Obj} {xs:List V} (e:H a=some (.frz o (.lst xs))):TyOf K H (.ref a) (.type "list")
 | tup {a:Addr} {xs:List V} (e:H a=some (.tup xs)):TyOf K H (.ref a) (.type "tuple")
 | dK {a:Addr} {kvs:List (Key × V)} (e:H a=some (.dK kvs)):TyOf K H (.ref a) (.type "dict")
 | dT {a:Addr} {kvs:List (List Key × V)} (e:H a=some (.dT kvs)):TyOf K H (.ref a) (.type "dict")
 | ins {a C dx:Addr} {fs:List (Str × V)} (e:H a=some (.ins C dx fs)) (cl:Cls K C) (ha:PySem.W.findIn K (.ref C) "__class__"=some (some (.builtin "object.__class__")))
     (hn:PySem.W.specialIn K (.builtin "object.__class__") "__get__"=some (some (.builtin "getset_descriptor.__get__"))) (htk:PySem.W.takesIn K (.builtin "object.__class__")=some true)
     (hm:PySem.W.mroIn K C (.type "object")=some true):TyOf K H (.ref a) (.ref C)
theorem Xw {x:V} {u t:Value} (I:Inv X pins σ H s) (rx:RelV x u) (ty:TyOf X.K H x t) (e:PySem.W.kitOne X.K t c=some b) (h:∀ tk,Q (.bool b) { s with toks:=tk }) :
   wpAny (model X.prog X.w) A (call (.builtin "isinstance") [u,c]) Q E s:=by
 cases ty with
 | non=>cases (show u=Value.none from rx);exact cB PySem.W.kitx_none I.kIn True.intro e (fun z=>nomatch z) h
 | bl y=>cases (show u=Value.bool y from rx);exact cB PySem.W.kitx_bool I.kIn True.intro e (fun z=>nomatch z) h
 | int i=>obtain ⟨t,q⟩:=(show ∃ t,u=Value.int i t from rx);cases q;exact cB PySem.W.kitx_int I.kIn True.intro e (fun z=>nomatch z) h
 | str y=>obtain ⟨t,q⟩:=(show ∃ t,u=Value.str y t from rx);cases q;exact cB PySem.W.kitx_str I.kIn True.intro e (fun z=>nomatch z) h
 | flt y=>obtain ⟨t,q⟩:=(show ∃ t,u=Value.float y t from rx);cases q;exact cB PySem.W.kitx_float I.kIn True.intro e (fun z=>nomatch z) h
 | @lst a xs ea =>
   cases (show u=Value.ref a from rx);obtain ⟨_,_,n,_,h1⟩:=(show ObjOk X.prog X.w H s.heap a (.lst xs) from I.hok a _ ea);exact cB PySem.W.kitx_list I.kIn ⟨_,h1,rfl⟩ e (fun z=>nomatch z) h
 | @frz a ob xs ea =>
   cases (show u=Value.ref a from rx);obtain ⟨_,_,_,n,_,h1⟩:=(show ObjOk X.prog X.w H s.heap a (.frz ob (.lst xs)) from I.hok a _ ea);exact cB PySem.W.kitx_list I.kIn ⟨_,h1,rfl⟩ e (fun z=>nomatch z) h
 | @tup a xs ea =>
   cases (show u=Value.ref a from rx);obtain ⟨_,_,_,p⟩:=(show ObjOk X.prog X.w H s.heap a (.tup xs) from I.hok a _ ea);obtain ⟨o,h1,h2,_⟩:=p;exact cB PySem.W.kitx_tuple I.kIn ⟨o,h1,h2⟩ e (fun z=>nomatch z) h
 | @dK a kvs ea =>
   cases (show u=Value.ref a from rx);obtain ⟨_,_,vs,_,p⟩:=(show ObjOk X.prog X.w H s.heap a (.dK kvs) from I.hok a _ ea);obtain ⟨o,es,ep,h1,h2,_⟩:=p;exact cB PySem.W.kitx_dict I.kIn ⟨o,h1,h2.1⟩ e (fun z=>nomatch z) h
 | @dT a kvs ea =>
   cases (show u=Value.ref a from rx);obtain ⟨_,_,xs,_,o,es,ep,h1,h2,_⟩:=(show ObjOk X.prog X.w H s.heap a (.dT kvs) from I.hok a _ ea);exact cB PySem.W.kitx_dict I.kIn ⟨o,h1,h2.1⟩ e (fun z=>nomatch z) h
 | @ins a C dx fs ea cl ha hn htk hm =>
   cases (show u=Value.ref a from rx);obtain ⟨mA,O,_⟩:=LQ I.hok ea;obtain ⟨od,J,_⟩:=O.look;exact cB (PySem.W.kitx_own (cl.get _) cl.hd ha hn htk hm) I.kIn J e (fun z=>nomatch z) h
end
end L2
namespace L2
open PySem PySem.Spec PyProof.Rows
structure Room (k:Nat) (A:Around):Prop where
 hd:A.handled=none
 dp:A.depth+3*k+5<recursionLimit
 un:A.units+16*k+200<cLine
theorem Room.mono {j k:Nat} {A:Around} (r:Room k A) (h:j<=k):Room j A:=⟨r.hd,by have:=r.dp;omega,by have:=r.un;omega⟩
theorem Room.deeper {k:Nat} {A:Around} (r:Room (k+1) A) (env:Env):Room k (A.deeper env) :=
 ⟨r.hd,by have:=r.dp;show A.depth+1+3*k+5<_;omega,by have:=r.un;show A.units+3+16*k+200<_;omega⟩
theorem U4 {A:Around} {C:Addr} {us:List Value} {kw:List (Str × Value)}:(A.under (.builtin "type.__call__" ⟨.ref C::us,kw⟩)).depth=A.depth+1:=by
 first|rfl|simp [Around.under,Code.weight,Code.isCreation,Code.isGuard,Code.isCaller,Code.frames,Code.isFrame,guardIds]
theorem Vo {A:Around} {C:Addr} {us:List Value} {kw:List (Str × Value)}:(A.under (.builtin "type.__call__" ⟨.ref C::us,kw⟩)).units=A.units+1:=by
 first|rfl|simp [Around.under,Code.cUnits,Code.frames,Code.isFrame]
theorem Room.make {k:Nat} {A:Around} (r:Room (k+1) A) (C:Addr) (us:List Value) (kw:List (Str × Value)):Room k (A.under (.builtin "type.__call__" ⟨.ref C::us,kw⟩)) :=
 ⟨r.hd,by have:=r.dp;rw [U4];omega,by have:=r.un;rw [Vo];omega⟩
theorem Room.depth {k:Nat} {A:Around} (r:Room k A):A.depth<recursionLimit:=by have:=r.dp;omega
theorem Room.units {k:Nat} {A:Around} (r:Room k A):A.units+64<cLine:=by have:=r.un;omega
def tNil:TA:=fun _ H Q=>Q [] H
def Vx (ta:TE) (tr:TA):TA:=fun σ H Q=>ta σ H fun x H1=>tr σ H1 fun xs H2=>Q (x::xs) H2
section
variable {X:Cx} {e:Expr} {es:List Expr} {te:TE} {t:TA} {pos:Pos}
theorem ax:PA X [] tNil:=fun _ _ _ _ H Q I h=>fQ ⟨[],H,I,.nil,h⟩
theorem ah (ha:PE X e te) (hr:PA X es t) (hs:starEach (e::es) X.env=(false,eval e X.env)::starEach es X.env:=by rfl):PA X (e::es) (Vx te t):=by
 intro pos pins s σ H Q I h;rw [hs];show wpAny _ _ (spliced ((false,eval e X.env)::backTo pos (starEach es X.env))) _ _ s;refine fC (dg (ha pins s σ H _ I h) fun u s1 x H1 I1 r1 q1=>?_);exact zf (hr pos pins s1 σ H1 _ I1 q1) fun us s2 xs H2 I2 r2 q2=>⟨x::xs,H2,I2,.cons r1 r2,q2⟩
def bua (t:TA):TE:=fun σ H Q=>t σ H fun xs H1=>xs.length<=sizeLine/\∀ p,H1 p=none->Q (.ref p) (upd H1 p (.tup xs))
def Y0 (t:TA):TE:=fun σ H Q=>t σ H fun xs H1=>xs.length<=sizeLine/\∀ p,H1 p=none->Q (.ref p) (upd H1 p (.lst xs))
theorem dD {x1} (h:PA X es t):PE X (.Tuple es x1 pos) (bua t):=by
 intro pins s σ H Q I hq;refine wpAny_Tuple_spliced (zf (h pos pins s σ H _ I hq) fun us s1 xs H1 I1 r ⟨z,q⟩=>⟨by rw [<- r.length];exact z,?_⟩);have hf:H1 s1.heap.objs.size=none:=I1.hok.fresh (aA _);refine ⟨.ref s1.heap.objs.size,upd H1 s1.heap.objs.size (.tup xs),I1.laid (t':=s1.toks) (fun b u e=>ap _ e) (aA _) ?_,rfl,q _ hf⟩;exact ⟨z,us,r,⟨_,aJ _ rfl,rfl,_,rfl⟩⟩
theorem eE (h:PA X es t):PE X (.List es pos) (Y0 t):=by
 intro pins s σ H Q I hq;refine wpAny_List_spliced (zf (h pos pins s σ H _ I hq) fun us s1 xs H1 I1 r ⟨z,q⟩=>⟨by rw [<- r.length];exact z,?_⟩);have hf:H1 s1.heap.objs.size=none:=I1.hok.fresh (aA _);refine ⟨.ref s1.heap.objs.size,upd H1 s1.heap.objs.size (.lst xs),I1.laid (t':=s1.toks) (fun b u e=>ap _ e) (aA _) ?_,rfl,q _ hf⟩;exact ⟨z,us,0,r,aJ _ rfl⟩
end
abbrev Sp:=List V->Hp->VK->XK->Prop
abbrev CXT:=List Env->Hp->Shared->XK->Value->Shared->Prop
structure Env0 (P:Program) (w:World) (K:PySem.W.Frag) (mg:Str->Option Value) (base:Heap) (A:Around) (outer:List Env) (s:Shared) (H:Hp):Prop where
 frames:A.frames=some outer
 mod:Mod K mg base
 bs:∀ b o,base.get? b=some o->s.heap.get? b=some o/\H b=none
 bsz:base.objs.size<=s.heap.objs.size
 funs:s.heap.FunFrames base outer
 frf:∀ b∈frs outer,H b=none
 hok:HOk P w H s.heap
 bare:AllBare s.gens
def CE (outer:List Env) (P:Program) (w:World) (H:Hp) (s:Shared) (Q:VK) (u:Value) (s':Shared):Prop :=
 ∃ v H',s'.os=s.os/\AllBare s'.gens/\Un (frs outer) [] H H' s.heap s'.heap/\HOk P w H' s'.heap/\RelV v u/\Q v H'
def CR (CX:CXT) (outer:List Env) (P:Program) (w:World) (H:Hp) (s:Shared) (Q:VK) (E:XK) (r:Result) (s':Shared):Prop :=
 match r with
 | .ok (.ret u)=>CE outer P w H s Q u s'
 | .ok _=>False
 | .error e=>CX outer H s E e s'
structure FnOk (P:Program) (w:World) (K:PySem.W.Frag) (mg:Str->Option Value) (base:Heap) (CX:CXT) (k:Nat) (f:Addr) (fd:FuncData) (ps:List Str) (sp:Sp):Prop where
 len:∀ vs H Q E,sp vs H Q E->vs.length=ps.length
 run:∀ (A:Around) (outer:List Env) (s:Shared) (H:Hp) (args:Args) (us:List Value) (vs:List V) (Q:VK) (E:XK),Room k A->Env0 P w K mg base A outer s H->BindsTo s fd args (ps.zip us)->Vals vs us->sp vs H Q E ->
   codeAny (model P w) A (.call (.ref f) args) (CR CX outer P w H s Q E) s
theorem Env0.make {P:Program} {w:World} {K:PySem.W.Frag} {mg:Str->Option Value} {base:Heap} {A:Around} {outer:List Env} {s:Shared} {H:Hp} (e:Env0 P w K mg base A outer s H) (C:Addr) (us:List Value) (kw:List (Str × Value)) :
   Env0 P w K mg base (A.under (.builtin "type.__call__" ⟨.ref C::us,kw⟩)) outer s H:=⟨by first|exact e.frames|(simpa [Around.under,Code.envs,Code.isFrame,pushEnvs] using e.frames),e.mod,e.bs,e.bsz,e.funs,e.frf,e.hok,e.bare⟩
section
variable {X:Cx} {pins:List (Addr × Obj)} {σ:St} {H:Hp} {s s':Shared}
theorem Inv.env0 (I:Inv X pins σ H s):Env0 X.prog X.w X.K X.mg X.base X.A X.stack s H :=
 ⟨I.ok.frames,I.ok.mod,I.bs,bP I.ok.bsz I.sz,I.stack,I.stkFree,I.hok,I.bare⟩
theorem Inv.after {Q:VK} {u:Value} (I:Inv X pins σ H s) (h:CE X.stack X.prog X.w H s Q u s'):EP X pins σ Q u s':=by
 obtain ⟨v,H',os,bare,un,hok,r,q⟩:=h;obtain ⟨hh,g,d,t,os'⟩:=s';obtain rfl:os'=s.os:=os;exact ⟨v,H',I.call (h':=hh) (g':=g) (d':=d) (t':=t) (ch:=[]) un hok bare (fun b z=>absurd z (by simp)),r,q⟩
end
def OS (sp:Sp) (dvs:List V) (E:XK) (t:TA):TE:=fun σ H Q=>t σ H fun vs H1=>sp (vs++dvs) H1 Q E
def bHa (C:Addr) (m:Str) (sp:Sp) (dvs:List V) (E:XK) (ta:TE) (t:TA):TE:=fun σ H Q=>ta σ H fun x H1=>∃ a dx fs,x=.ref a/\H1 a=some (.ins C dx fs)/\fs.lookup m=none /\
 t σ H1 fun vs H2=>sp (x::(vs++dvs)) H2 Q E
def Vh (C:Addr) (sp:Sp) (dvs:List V) (E:XK) (t:TA):TE:=fun σ H Q=>t σ H fun vs H1=>∀ x dx,H1 x=none->H1 dx=none->dx≠x ->
 sp (.ref x::(vs++dvs)) (upd (upd H1 dx (.own x)) x (.ins C dx [])) (fun v H2=>v=.non/\Q (.ref x) H2) E
def Binds (K:PySem.W.Frag) (fd:FuncData) (ps:List Str) (ds:List Value):Prop :=
 ∀ (s:Shared) (us:List Value),K.In s.heap->(us++ds).length=ps.length->BindsTo s fd ⟨us,[]⟩ (ps.zip (us++ds))
theorem Binds.all {K:PySem.W.Frag} {fd:FuncData} {ps:List Str} (h:∀ us:List Value,us.length=ps.length->bindArgs fd ⟨us,[]⟩=pure (ps.zip us)):Binds K fd ps []:=fun s us _ hl=>by
 rw [bG] at hl ⊢;exact .of_eq (h us hl)
def Cp (CX:CXT) (X:Cx) (E:XK):Prop:=∀ (pins:List (Addr × Obj)) (σ:St) (H:Hp) (s:Shared) (e:Value) (s':Shared),Inv X pins σ H s->CX X.stack H s E e s'->X.xe e s'
section
variable {X:Cx} {CX:CXT} {k:Nat} {f C:Addr} {fd:FuncData} {ps:List Str} {sp:Sp} {dvs:List V} {ds:List Value} {E:XK} {x m:Str} {p pos apos:Pos} {e o:Expr} {es:List Expr} {ta:TE} {t:TA}
theorem c5a {pins:List (Addr × Obj)} {σ:St} {H:Hp} {s:Shared} {Q:VK} {us:List Value} {vs:List V} (F:FnOk X.prog X.w X.K X.mg X.base CX k f fd ps sp) (hr:Room k X.A) (hb:Binds X.K fd ps ds) (hd:Vals dvs ds) (hx:Cp CX X E)
   (I:Inv X pins σ H s) (r:Vals vs us) (h:sp (vs++dvs) H Q E):wpAny (model X.prog X.w) X.A (call (.ref f) us) (EP X pins σ Q) X.xe s:=by
 have r2:Vals (vs++dvs) (us++ds):=r.append hd;have hl:(us++ds).length=ps.length:=by rw [<- r2.length];exact F.len _ _ _ _ h
 refine fw (g6 (F.run X.A X.stack s H ⟨us,[]⟩ (us++ds) (vs++dvs) Q E hr I.env0 (hb s us I.kIn hl) r2 h) fun r s' hq=>?_);cases r with
 | error e=>exact hx pins σ H s e s' I hq
 | ok fl =>
   cases fl with
   | ret u=>exact I.after hq
   | next=>exact False.elim hq
   | brk=>exact False.elim hq
   | cont=>exact False.elim hq
theorem aZ (F:FnOk X.prog X.w X.K X.mg X.base CX k f fd ps sp) (hr:Room k X.A) (hg:Gl X x) (hm:X.mg x=some (.ref f)) (hk:PySem.W.keepIn X.K (.ref f)=true) (hb:Binds X.K fd ps ds) (hd:Vals dvs ds) (hx:Cp CX X E)
   (ha:PA X (e::es) t) (hdb:(x == ("__debug__":Str))=false:=by decide) (he:starEach (e::es) X.env=(false,eval e X.env)::starEach es X.env:=by rfl) (hpl:(backTo pos (starEach es X.env)).any (·.1)=false:=by rfl) :
   PE X (.Call (.Name x p) (e::es) [] pos) (OS sp dvs E t):=by
 intro pins s σ H Q I h;refine dZ (uF I hg hm ?_ hdb);refine k8 (h₀:=X.base) I.ok.mod.kin hk (zf (ha pos pins s σ H _ I h) fun us s1 vs H1 I1 r q=>⟨I1.kIn,?_⟩) he hpl;exact c5a F hr hb hd hx I1 r q
structure Mk (K:PySem.W.Frag) (C f:Addr):Prop where
 makes:PySem.W.makesIn K C=true
 init:PySem.W.findIn K (.ref C) "__init__"=some (some (.ref f))
 fn:PySem.W.isFn K (.ref f)=true
 kp:PySem.W.keepIn K (.ref C)=true
theorem aWa {pins:List (Addr × Obj)} {σ:St} {H:Hp} {s:Shared} {Q:VK} {us:List Value} {vs:List V} (M:Mk X.K C f) (F:FnOk X.prog X.w X.K X.mg X.base CX k f fd ps sp) (hr:Room (k+1) X.A) (hb:Binds X.K fd ps ds) (hd:Vals dvs ds)
   (hx:Cp CX X E) (I:Inv X pins σ H s) (r:Vals vs us)
   (h:∀ x dx,H x=none->H dx=none->dx≠x->sp (.ref x::(vs++dvs)) (upd (upd H dx (.own x)) x (.ins C dx [])) (fun v H2=>v=.non/\Q (.ref x) H2) E) :
   wpAny (model X.prog X.w) X.A (call (.ref C) us) (EP X pins σ Q) X.xe s:=by
 have hq:=h (s.heap.objs.size+1) s.heap.objs.size (I.hok.fresh (dE _)) (I.hok.fresh (aA _)) (aE (jm _));have I2:=Inv.made (C:=C) I;have r2:Vals (V.ref (s.heap.objs.size+1)::(vs++dvs)) (Value.ref (s.heap.objs.size+1)::(us++ds)):=.cons rfl (r.append hd);have hl:(Value.ref (s.heap.objs.size+1)::us++ds).length=ps.length:=by
   have e:=r2.length;rw [F.len _ _ _ _ hq] at e;exact e.symm
 refine fw (aga (f:=f) I.kIn M.makes M.init (ja.mp M.fn) (g6 (F.run _ X.stack _ _ ⟨Value.ref (s.heap.objs.size+1)::us,[]⟩ (Value.ref (s.heap.objs.size+1)::(us++ds)) _ _ E (hr.make C us [])
   (I2.env0.make C us []) (hb _ (Value.ref (s.heap.objs.size+1)::us) I2.kIn hl) r2 hq) fun r s' hq'=>?_))
 cases r with
 | error e=>exact hx pins σ _ _ e s' I2 hq'
 | ok fl =>
   cases fl with
   | ret u =>
     obtain ⟨v,H',I3,rv,ev,q3⟩:=I2.after hq';subst ev;exact ⟨rv,⟨V.ref (s.heap.objs.size+1),H',I3,rfl,q3⟩⟩
   | next=>exact False.elim hq'
   | brk=>exact False.elim hq'
   | cont=>exact False.elim hq'
theorem cda (M:Mk X.K C f) (F:FnOk X.prog X.w X.K X.mg X.base CX k f fd ps sp) (hr:Room (k+1) X.A) (hg:Gl X x) (hm:X.mg x=some (.ref C)) (hb:Binds X.K fd ps ds) (hd:Vals dvs ds) (hx:Cp CX X E)
   (ha:PA X (e::es) t) (hdb:(x == ("__debug__":Str))=false:=by decide) (he:starEach (e::es) X.env=(false,eval e X.env)::starEach es X.env:=by rfl) (hpl:(backTo pos (starEach es X.env)).any (·.1)=false:=by rfl) :
   PE X (.Call (.Name x p) (e::es) [] pos) (Vh C sp dvs E t):=by
 intro pins s σ H Q I h;refine dZ (uF I hg hm ?_ hdb);refine k8 (h₀:=X.base) I.ok.mod.kin M.kp (zf (ha pos pins s σ H _ I h) fun us s1 vs H1 I1 r q=>⟨I1.kIn,?_⟩) he hpl;exact aWa M F hr hb hd hx I1 r q
end
structure FnScope (N P:List Str) (sc:Scope):Prop where
 kind:sc.kind=.function
 co:sc.isCoroutine=false
 gen:sc.isGenerator=false
 nd:N.Nodup
 pre:N.take P.length=P
 par:∀ x∈P,sc.names.lookup x=some .local\/sc.names.lookup x=some .cell
 nofree:∀ y∈sc.names,y.2≠.free
theorem NK {kindOf:Str->Option NameKind} {x:Str}:∀ {binds:List (Str × Value)} {m:Str->Option Value},(∀ v,(x,v) ∉ binds)->bindL kindOf binds m x=m x
 | [],_,_=>rfl
 | (n,v)::r,m,h=>by
   unfold bindL;rw [NK fun w hw=>h w (aL _ hw)];split
   . have:x≠n:=(by rintro rfl;exact h v aO);simp [this]
   . rfl
theorem MZ {kindOf:Str->Option NameKind} {x:Str}:∀ {binds:List (Str × Value)} {m:Str->Option Value},(∀ v,(x,v) ∉ binds)->bindC kindOf binds m x=m x
 | [],_,_=>rfl
 | (n,v)::r,m,h=>by
   unfold bindC;rw [MZ fun w hw=>h w (aL _ hw)];split
   . rfl
   . have:x≠n:=(by rintro rfl;exact h v aO);simp [this]
theorem NH {kindOf:Str->Option NameKind} {x:Str} {v:Value}:∀ {P:List Str} {vs:List Value} {i:Nat} {m:Str->Option Value},P.Nodup->P[i]?=some x->vs[i]?=some v->kindOf x=some .local ->
   bindL kindOf (P.zip vs) m x=some v
 | [],_,_,_,_,h,_,_=>by simp at h
 | _::_,[],_,_,_,_,h,_=>by simp at h
 | p::P,w::vs,0,m,nd,h1,h2,hk=>by
   simp at h1 h2;subst h1;subst h2;show bindL kindOf ((p,w)::P.zip vs) m p=_;unfold bindL;rw [NK fun v hv=>(ba.mp nd).1 (jL hv).1,am hk];simp
 | p::P,w::vs,i+1,m,nd,h1,h2,hk=>by
   show bindL kindOf ((p,w)::P.zip vs) m x=_;unfold bindL;exact NH (i:=i) (ba.mp nd).2 (by simpa using h1) (by simpa using h2) hk
theorem Nl {kindOf:Str->Option NameKind} {x:Str} {v:Value}:∀ {P:List Str} {vs:List Value} {i:Nat} {m:Str->Option Value},P.Nodup->P[i]?=some x->vs[i]?=some v->kindOf x≠some .local ->
   bindC kindOf (P.zip vs) m x=some v
 | [],_,_,_,_,h,_,_=>by simp at h
 | _::_,[],_,_,_,_,h,_=>by simp at h
 | p::P,w::vs,0,m,nd,h1,h2,hk=>by
   simp at h1 h2;subst h1;subst h2;show bindC kindOf ((p,w)::P.zip vs) m p=_;unfold bindC;rw [MZ fun v hv=>(ba.mp nd).1 (jL hv).1,aj hk];simp
 | p::P,w::vs,i+1,m,nd,h1,h2,hk=>by
   show bindC kindOf ((p,w)::P.zip vs) m x=_;unfold bindC;exact Nl (i:=i) (ba.mp nd).2 (by simpa using h1) (by simpa using h2) hk
def start (N:List Str) (vs:List V):St:=vs.map some++List.replicate (N.length - vs.length) none
def wA (CX:CXT) (P:Program) (w:World) (K:PySem.W.Frag) (mg:Str->Option Value) (base:Heap) (N:List Str) (qual:Str) (scope:Scope) (f:Addr) (cd:Value) (A:Around) (outer:List Env) (s:Shared) (H:Hp) (E:XK):Cx where
 prog:=P
 w:=w
 K:=K
 mg:=mg
 base:=base
 A:=A.deeper (envOfC qual scope s.heap.objs.size f cd)
 N:=N
 s₀:=s
 H₀:=H
 env:=envOfC qual scope s.heap.objs.size f cd
 outer:=outer
 stack:=envOfC qual scope s.heap.objs.size f cd::outer
 ex:=[]
 calm:=true
 fn:=fun _=>true
 pn:=[]
 xe:=fun e s'=>wpAny (model P w) (A.deeper (envOfC qual scope s.heap.objs.size f cd)) (leaving (envOfC qual scope s.heap.objs.size f cd) e) (fun _ s''=>CX outer H s E e s'') (fun e' s''=>CX outer H s E e' s'') s'
theorem pJ {sc:Scope} {n:Nat} {x:Str} (h:sc.names.lookup x=some .cell):∃ c,(cellsFrom n sc.names []).lookup x=some c:=by
 have q:=nY sc.names n [] (.inl h);exact eK.mp q
theorem WU {CX:CXT} {P:Program} {w:World} {K:PySem.W.Frag} {mg:Str->Option Value} {base:Heap} {N ps:List Str} {qual:Str} {scope:Scope} {f:Addr} {cd:Value} {A:Around} {outer:List Env} {s s1:Shared} {H:Hp} {E:XK} {us:List Value} {vs:List V}
   (S:FnScope N ps scope) (hd:A.handled=none) (e0:Env0 P w K mg base A outer s H) (hl:vs.length=ps.length) (r:Vals vs us)
   (x:InCallC s s.heap.objs.size (bindL (envOfC qual scope s.heap.objs.size f cd).kindOf (ps.zip us) fun _=>none) (cellsFrom (s.heap.objs.size+1) scope.names []) (bindC (envOfC qual scope s.heap.objs.size f cd).kindOf (ps.zip us) fun _=>none) s1) :
   Inv (wA CX P w K mg base N qual scope f cd A outer s H E) [] (start N vs) H s1:=by
 have hpl:ps.length<=N.length:=by have:=congrArg List.length S.pre;rw [bo] at this;omega
 obtain ⟨h1,tk,rfl,hk⟩:=x.done;have noA:∀ b:Addr,b ∉ (wA CX P w K mg base N qual scope f cd A outer s H E).ex:=fun b z=>absurd (show b∈([]:List Addr) from z) (by simp);refine ⟨⟨e0.mod,S.kind,rfl,rfl,aA _,fun y z c h1 h2=>?_,fun y hy=>?_,fun y c _ h=>?_,fun _=>hd,Around.frames_deeper e0.frames,.inr ⟨rfl,rfl⟩,fun b z=>absurd z (noA b),e0.bs,e0.bsz,fun b _ _=>noA b,fun b z=>absurd z (noA b),e0.funs,e0.frf⟩,
   rfl,e0.bare,Un.kept hk,⟨_,x.toInCall.ns,fun i y v h1 h2 h3=>?_⟩,fun y c h=>⟨_,x.cell y c h⟩,e0.hok.fresh (aA _),fun y c h=>?_,fun p hp=>absurd (show p∈([]:List (Addr × Obj)) from hp) (by simp),e0.hok.kept hk,?_⟩
 . exact name_of_addr x.apart (cZ h1) (cZ h2)
 . have hy:scope.names.lookup y=some .cell\/scope.names.lookup y=some .free:=hy;rcases hy with hy|hy
   . exact pJ hy
   . exact absurd rfl (S.nofree _ (cZ hy))
 . exact jr (x.above y c (cZ h))
 . have hi:i<vs.length:=by
     unfold start at h2;by_cases hi:i<vs.length
     . exact hi
     . rw [eC (by simpa using hi)] at h2;rw [jd] at h2;split at h2 <;> cases h2
   have ha:vs[i]?=some v:=by
     unfold start at h2;rw [eJ (by simpa using hi),aU] at h2;cases e:vs[i]? with
     | none=>rw [e] at h2;cases h2
     | some a=>rw [e] at h2;cases h2;rfl
   obtain ⟨u,hu,rv⟩:=r.get ha;have hp:ps[i]?=some y:=by
     rw [<- S.pre,gd (by omega)];exact h1
   have ndP:ps.Nodup:=by rw [<- S.pre];exact S.nd.sublist (List.take_sublist _ _)
   refine ⟨u,rv,?_⟩;rcases S.par y (bd hp) with k|k
   . exact .inl ⟨k,NH ndP hp hu k⟩
   . obtain ⟨c,e⟩:=pJ (n:=s.heap.objs.size+1) k;refine .inr ⟨.inl k,c,e,?_⟩;have q:=x.cell y c e;rw [Nl ndP hp hu (by show scope.names.lookup y≠_;rw [k];decide)] at q;exact q
 . exact e0.hok.fresh (jr (x.above y c (cZ h)))
 . unfold start;show _=N.length;rw [au,ak,fJ];omega
theorem bPa {CX:CXT} {P:Program} {w:World} {K:PySem.W.Frag} {mg:Str->Option Value} {base:Heap} {k:Nat} {f:Addr} {name qual:Str} {params:Arguments} {body:List Stmt} {scope:Scope} {dV kV doc pm cdv ct oc:Value} {an od:Option Addr}
   {osl:Array (Option Value)} {N ps:List Str} {sp:Sp} (lk:K.lookup f=some ⟨oc,od,.func (PySem.W.fnOf name qual params body scope dV kV doc pm an cdv ct),osl⟩) (hcd:PySem.W.codeIn K cdv qual=true) (S:FnScope N ps scope)
   (len:∀ vs H Q E,sp vs H Q E->vs.length=ps.length)
   (hbody:∀ (A:Around) (outer:List Env) (s:Shared) (H:Hp) (vs:List V) (Q:VK) (E:XK),Room k (A.deeper (envOfC qual scope s.heap.objs.size f cdv))->sp vs H Q E ->
     ∃ t,PSs (wA CX P w K mg base N qual scope f cdv A outer s H E) body t/\t { nx:=fun _ H'=>Q .non H',rt:=Q } (start N vs) H) :
   FnOk P w K mg base CX (k+1) f (PySem.W.fnOf name qual params body scope dV kV doc pm an cdv ct) ps sp:=by
 refine ⟨len,fun A outer s H args us vs Q E hr e0 hb r hsp=>?_⟩;have hl:=len _ _ _ _ hsp;have KX:K.In s.heap:=e0.mod.kin.keeps fun b o e=>(e0.bs b o e).1;have lim:s.heap.NoLimit:=e0.mod.nolimit.keeps fun b o e=>(e0.bs b o e).1;have hkind:∀ y∈ps.zip us,scope.names.lookup y.1=some .local\/(scope.names.lookup y.1=some .cell/\((cellsFrom (s.heap.objs.size+1) scope.names []).lookup y.1).isSome=true):=fun ⟨n,v⟩ hy=>by
   rcases S.par n (jL hy).1 with q|q
   . exact .inl q
   . exact .inr ⟨q,nY _ _ _ (.inl q)⟩
 refine codeAny_call_function hr.depth (KX _ _ lk) rfl S.co S.gen rfl (PySem.W.codeRec_of KX hcd) (hb _ _ _ _ ?_);refine wpAny_newFunctionEnv_cells S.kind hkind fun env he s1 x=>?_;subst he;refine ⟨lim.keeps x.toInCall.keep,codeAny_func ?_⟩;obtain ⟨t,ht,hq⟩:=hbody A outer s H vs Q E (hr.deeper _) hsp;have I:Inv (wA CX P w K mg base N qual scope f cdv A outer s H E) [] (start N vs) H s1:=WU S hr.hd e0 hl r x;refine bg (ht [] s1 (start N vs) H _ I hq) (fun fl s' hs=>?_) fun e s' hs=>hs;have fin:∀ {σ':St} {H':Hp} {v:V} {u:Value},Inv (wA CX P w K mg base N qual scope f cdv A outer s H E) [] σ' H' s'->RelV v u->Q v H'->CE outer P w H s Q u s' :=
   fun {σ' H' v u} J rv q=>⟨v,H',J.os,J.bare,J.base,J.hok,rv,q⟩
 cases fl with
 | ret u =>
   obtain ⟨v,σ',H',J,rv,q⟩:=hs;exact fin J rv q
 | next =>
   obtain ⟨σ',H',J,q⟩:=hs;exact fin (v:=V.non) (u:=Value.none) J rfl q
 | brk =>
   obtain ⟨_,_,_,q⟩:=hs;exact False.elim q
 | cont =>
   obtain ⟨_,_,_,q⟩:=hs;exact False.elim q
end L2
namespace L2
open PySem PySem.Spec PyProof.Rows
section
variable {X:Cx} {x:Str} {p pos:Pos} {e:Expr} {es:List Expr} {t:TA} {id T:String} {r:List V->Hp->VK->Prop}
def tCB (r:List V->Hp->VK->Prop) (t:TA):TE:=fun σ H Q=>t σ H fun vs H1=>r vs H1 Q
theorem fG (hc:vo X (.builtin id) r) (hg:Gl X x) (hm:X.mg x=none) (hv:bootBuiltins x=some (.builtin id)) (ha:PA X (e::es) t) (hn:x≠"__name__":=by decide) (hdb:(x == ("__debug__":Str))=false:=by decide)
   (he:starEach (e::es) X.env=(false,eval e X.env)::starEach es X.env:=by rfl) (hpl:(backTo pos (starEach es X.env)).any (·.1)=false:=by rfl):PE X (.Call (.Name x p) (e::es) [] pos) (tCB r t):=by
 intro pins s σ H Q I h;refine dZ (pS I hg hm hv ?_ hn hdb);exact jH (zf (ha pos pins s σ H _ I h) fun us s1 vs H1 I1 r1 q1=>hc pins s1 σ H1 vs us Q I1 r1 q1) he hpl
theorem dN (hc:vo X (.type T) r) (hg:Gl X x) (hm:X.mg x=none) (hv:bootBuiltins x=some (.type T)) (ha:PA X (e::es) t) (hn:x≠"__name__":=by decide) (hdb:(x == ("__debug__":Str))=false:=by decide)
   (he:starEach (e::es) X.env=(false,eval e X.env)::starEach es X.env:=by rfl) (hpl:(backTo pos (starEach es X.env)).any (·.1)=false:=by rfl):PE X (.Call (.Name x p) (e::es) [] pos) (tCB r t):=by
 intro pins s σ H Q I h;refine dZ (pS I hg hm hv ?_ hn hdb);exact bQ (zf (ha pos pins s σ H _ I h) fun us s1 vs H1 I1 r1 q1=>hc pins s1 σ H1 vs us Q I1 r1 q1) he hpl
end
end L2
namespace HT
open PySem PyProof.Rows
section
variable {prog:Program} {w:World} {A:Around} {E:Value->Shared->Prop} {s:Shared}
def sIx (n d:Nat):Option Int->Nat
 | none=>d
 | some v=>if v<0 then (v+(n:Int)).toNat else min v.toNat n
end
end HT
namespace L2
open PySem PySem.Spec PyProof.Rows
abbrev TO:=St->Hp->(Option Int->Hp->Prop)->Prop
def PO (X:Cx) (e:Option Expr) (t:TO):Prop :=
 ∀ (pins:List (Addr × Obj)) (s:Shared) (σ:St) (H:Hp) (Q:Option Int->Hp->Prop),Inv X pins σ H s->t σ H Q ->
   wpAny (model X.prog X.w) X.A (evalPart e X.env) (fun u s'=>∃ o H',Inv X pins σ H' s'/\IsPart u o/\Q o H') X.xe s
def tNoPart:TO:=fun _ H Q=>Q none H
def D2 (t:TE):TO:=fun σ H Q=>t σ H fun x H1=>∃ i,x=.int i/\Q (some i) H1
section
variable {X:Cx} {e:Expr} {te:TE} {lo hi:Option Expr} {tl th:TO} {pos p2:Pos}
theorem qr:PO X none tNoPart:=by
 intro pins s σ H Q I h;rw [evalPart_none];exact ao ⟨none,H,I,.none,h⟩
theorem qc (h:PE X e te):PO X (some e) (D2 te):=by
 intro pins s σ H Q I hw;rw [evalPart_some];refine dg (h pins s σ H _ I hw) fun u s1 x H1 I1 r1 q1=>?_;obtain ⟨i,rfl,q⟩:=q1;obtain ⟨t,rfl⟩:=r1;exact ⟨some i,H1,I1,.int i t,q⟩
def SlR (X:Cx) (r:V->Option Int->Option Int->Hp->VK->Prop):Prop :=
 ∀ (pins:List (Addr × Obj)) (s:Shared) (σ:St) (H:Hp) (x:V) (v vl vu:Value) (lo hi:Option Int) (sl:Addr) (Q:VK),Inv X pins σ H s->RelV x v->s.heap.IsSliceOf sl vl vu .none->IsPart vl lo->IsPart vu hi->r x lo hi H Q ->
   ∃ T id,typeLookup (.type T) "__getitem__"=pure (some (.builtin id))/\s.TypeIs v T/\wpAny (model X.prog X.w) X.A (getItem v (.ref sl)) (EP X pins σ Q) X.xe s
def tSl (r:V->Option Int->Option Int->Hp->VK->Prop) (te:TE) (tl th:TO):TE:=fun σ H Q=>te σ H fun x H1=>tl σ H1 fun l H2=>th σ H2 fun u H3=>r x l u H3 Q
theorem nL {r:V->Option Int->Option Int->Hp->VK->Prop} (hr:SlR X r) (he:PE X e te) (hl:PO X lo tl) (hu:PO X hi th):PE X (.Subscript e (.Slice lo hi none p2) pos) (tSl r te tl th):=by
 intro pins s σ H Q I h;refine Subscript_ (dg (he pins s σ H _ I h) fun v s1 x H1 I1 r1 q1=>?_);refine wpAny_Slice (thn (hl pins s1 σ H1 _ I1 q1) fun vl s2 ⟨l,H2,I2,pl,q2⟩=>thn (hu pins s2 σ H2 _ I2 q2) fun vu s3 ⟨u,H3,I3,pu,q3⟩=>?_);rw [evalPart_none];refine ao ?_;have I4:Inv X pins σ H3 { s3 with heap:=s3.heap.push { cls:=.type "slice",data:=.fields #[vl,vu,.none] } }:=I3.kept (t':=s3.toks) fun b ob q=>ap _ q;obtain ⟨T,id,hT,ht,hg⟩:=hr pins { s3 with heap:=s3.heap.push { cls:=.type "slice",data:=.fields #[vl,vu,.none] } } σ H3 x v vl vu l u s3.heap.objs.size Q I4 r1 (Heap.IsSliceOf.new ..) pl pu q3;show wpAny (model X.prog X.w) X.A (subscriptTail e (.Slice lo hi none p2) v (.ref s3.heap.objs.size)) (EP X pins σ Q) X.xe { s3 with heap:=s3.heap.push { cls:=.type "slice",data:=.fields #[vl,vu,.none] } };exact tail_any (ops:=[.ref s3.heap.objs.size,v]) ht hT hg (by with_unfolding_all rfl)
def Fa (xs:List V) (lo hi:Option Int):List V:=(xs.drop (HT.sIx xs.length 0 lo)).take (HT.sIx xs.length xs.length hi - HT.sIx xs.length 0 lo)
theorem Sv (xs:List V) (lo hi:Option Int):(Fa xs lo hi).length<=xs.length:=by
 unfold Fa;rw [bo,cV];omega
end
end L2
namespace L2
open PySem PySem.Spec PyProof.Rows
def ixN (n:Nat) (i:Int):Option Nat:=if 0<=i then (if i<n then some i.toNat else none) else if -(n:Int)<=i then some (i+n).toNat else none
def atI {α:Type} (xs:List α) (i:Int):Option α:=(ixN xs.length i).bind fun j=>xs[j]?
theorem TX {n:Nat} {i:Int} {j:Nat} (h:ixN n i=some j):seqIndex? i n=some j/\j<n/\-(n:Int)<=i/\i<n:=by
 unfold ixN at h;by_cases h0:0<=i
 . rw [am h0] at h;by_cases h1:i<n
   . rw [am h1] at h;have e:i.toNat=j:=bh h;exact ⟨by rw [seqIndex_of h0 h1,e],by omega,by omega,h1⟩
   . rw [aj h1] at h;cases h
 . rw [aj h0] at h;by_cases h1:-(n:Int)<=i
   . rw [am h1] at h;have e:(i+n).toNat=j:=bh h;exact ⟨by rw [seqIndex_neg (by omega) h1,e],by omega,h1,by omega⟩
   . rw [aj h1] at h;cases h
theorem Ln {α:Type} {xs:List α} {i:Int} {v:α} (h:atI xs i=some v):∃ j,seqIndex? i xs.length=some j/\xs[j]?=some v/\j<xs.length/\-(xs.length:Int)<=i/\i<xs.length:=by
 unfold atI at h;cases e:ixN xs.length i with
 | none=>rw [e] at h;cases h
 | some j =>
   rw [e] at h;obtain ⟨h1,h2,h3,h4⟩:=TX e;exact ⟨j,h1,h,h2,h3,h4⟩
theorem Mc {α:Type} {xs:List α} {j:Nat} {v:α} (h:xs[j]?=some v):atI xs (j:Int)=some v:=by
 have hj:j<xs.length:=(aB.mp h).1;have e:ixN xs.length (j:Int)=some j:=by
   unfold ixN;rw [am (by omega),am (by omega)];simp
 unfold atI;rw [e];exact h
theorem Jk {α:Type} (xs:List α) (v:α):atI (xs++[v]) (-1)=some v:=by
 have hl:(xs++[v]).length=xs.length+1:=by simp
 have e:ixN (xs++[v]).length (-1)=some xs.length:=by
   unfold ixN;rw [hl,aj (by decide),am (by omega)]
   congr 1
   omega
 unfold atI;rw [e];show (xs++[v])[xs.length]?=some v;simp
def cLa (b:Expr):Prop:=∀ o i,subscripted b false o i=operate [o,i] (getItem o i)
def IxR (X:Cx) (r:R2):Prop :=
 ∀ (value slice:Expr) (pins:List (Addr × Obj)) (s:Shared) (σ:St) (H:Hp) (x y:V) (v u:Value) (Q:VK),Inv X pins σ H s->RelV x v->RelV y u->r x y H Q ->
   subscripted slice false v u=operate [v,u] (getItem v u)->wpAny (model X.prog X.w) X.A (subscriptTail value slice v u) (EP X pins σ Q) X.xe s
def MtR (X:Cx) (id:String) (r:V->List V->Hp->VK->Prop):Prop :=
 ∀ (pins:List (Addr × Obj)) (s:Shared) (σ:St) (H:Hp) (x:V) (xs:List V) (v:Value) (us:List Value) (Q:VK),Inv X pins σ H s->RelV x v->Vals xs us->r x xs H Q ->
   wpAny (model X.prog X.w) X.A (call (.builtin id) (v::us)) (EP X pins σ Q) X.xe s
section
variable {X:Cx} {a b:Expr} {ta tb:TE} {pos:Pos}
theorem bu {r:R2} (hr:IxR X r) (ha:PE X a ta) (hb:PE X b tb) (hs:cLa b):PE X (.Subscript a b pos) (tOp r ta tb):=by
 intro pins s σ H Q I h;exact Subscript_ (Yu ha hb I h fun v u s2 x y H2 I2 rx ry q=>hr a b pins s2 σ H2 x y v u Q I2 rx ry q (hs _ _))
def Mt (K:PySem.W.Frag):R2:=fun x y H Q=>∃ p xs i v,x=.ref p/\y=.int i/\SqL K H p xs/\atI xs i=some v/\Q v H
def VU (K:PySem.W.Frag):R2:=fun x y H Q=>∃ p xs i v,x=.ref p/\y=.int i/\SqT K H p xs/\atI xs i=some v/\Q v H
theorem b9:IxR X (Mt X.K):=by
 intro value slice pins s σ H x y v u Q I rx ry h hs;obtain ⟨p,xs,i,z,rfl,rfl,hq,he,q⟩:=h;cases rx;obtain ⟨t,rfl⟩:=ry;obtain ⟨its,r,pl,hz⟩:=I.list hq;obtain ⟨j,h1,h2,h3,h4,h5⟩:=Ln he;obtain ⟨w,ew,rw'⟩:=r.get h2;have hl:=r.length;have hn:=zE;have fin:EP X pins σ Q w s:=⟨z,H,I,rw',q⟩;by_cases h0:0<=i
 . have hj:i.toNat=j:=by
     rw [seqIndex_of h0 h5] at h1;exact bh h1
   exact item_listR pl.isList h0 (by omega) (by rw [hj];simpa using ew) fin hs
 . have hj:(i+(its.toArray.size:Int)).toNat=j:=by
     rw [seqIndex_neg (by omega) h4] at h1;rw [aG,<- hl];exact bh h1
   exact subscriptTail_builtinR (x:=w) pl.isList.typeIs slot_list_getitem.lookup
     (wpAny_getItem_list_neg (Q:=fun r s'=>r=w/\EP X pins σ Q r s') pl.isList (by omega) (by rw [aG] <;> omega) (by omega) (by rw [hj];simpa using ew) ⟨rfl,fin⟩) hs
theorem dR:IxR X (VU X.K):=by
 intro value slice pins s σ H x y v u Q I rx ry h hs;obtain ⟨p,xs,i,z,rfl,rfl,hq,he,q⟩:=h;cases rx;obtain ⟨t,rfl⟩:=ry;obtain ⟨its,r,pl,hz⟩:=I.tuple hq;obtain ⟨j,h1,h2,h3,h4,h5⟩:=Ln he;obtain ⟨w,ew,rw'⟩:=r.get h2;have hl:=r.length;have hn:=zE;have fin:EP X pins σ Q w s:=⟨z,H,I,rw',q⟩;exact subscriptTail_builtinR (x:=w) pl.typeIs slot_tuple_getitem.lookup
   (getItem_tuple (j:=j) (Q:=fun r s'=>r=w/\EP X pins σ Q r s') pl (by omega) (by omega) (by rw [aG,<- hl];exact h1) (by simpa using ew) ⟨rfl,fin⟩) hs
theorem UY (its:List Value) (n j:Nat) (u:Value):Obj.mapSeq (·.setIfInBounds j u) { cls:=.type "list",data:=.seq its.toArray n }={ cls:=.type "list",data:=.seq (its.set j u).toArray n }:=by
 simp [Obj.mapSeq]
theorem Inv.lst {pins:List (Addr × Obj)} {σ:St} {H:Hp} {s:Shared} {p:Addr} {xs:List V} (I:Inv X pins σ H s) (h:H p=some (.lst xs)) :
   ∃ (its:List Value) (n:Nat),Vals xs its/\s.heap.get? p=some { cls:=.type "list",data:=.seq its.toArray n }/\xs.length<=sizeLine:=by
 obtain ⟨z,its,n,r,e⟩:=I.hok p _ h;exact ⟨its,n,r,e,z⟩
theorem Inv.lstUpd {pins:List (Addr × Obj)} {σ:St} {H:Hp} {s:Shared} {p:Addr} {xs ys:List V} {its its':List Value} {n n':Nat} {f:Obj->Obj} (I:Inv X pins σ H s) (h:H p=some (.lst xs))
   (ho:s.heap.get? p=some { cls:=.type "list",data:=.seq its.toArray n }) (hf:f { cls:=.type "list",data:=.seq its.toArray n }={ cls:=.type "list",data:=.seq its'.toArray n' }) (r:Vals ys its') (hz:ys.length<=sizeLine) (t:Nat) :
   Inv X pins σ (upd H p (.lst ys)) { s with heap:=s.heap.update p f,toks:=t }:=by
 have e:(s.heap.update p f).get? p=some { cls:=.type "list",data:=.seq its'.toArray n' }:=by
   rw [bI f ho (by rw [hf] <;> rfl),hf]
 refine I.write (x:=p) (e:=p) (by rw [h];trivial) (.inl rfl) (fun b u hb q=>(bR _ _ (Ne.symm hb)).trans q) ⟨_,e⟩ ?_;exact ⟨hz,its',n',r,e⟩
def rSetL:V->V->V->Hp->(Hp->Prop)->Prop:=fun o i v H Q=>∃ p xs k j,o=.ref p/\i=.int k/\H p=some (.lst xs)/\ixN xs.length k=some j/\Q (upd H p (.lst (xs.set j v)))
theorem kE:bsa X rSetL:=by
 intro pins s σ H o i v ov iv u Q I ro ri rv h;obtain ⟨p,xs,k,j,rfl,rfl,hp,hj,q⟩:=h;cases ro;obtain ⟨t,rfl⟩:=ri;obtain ⟨its,n,r,ho,hz⟩:=I.lst hp;obtain ⟨h1,h2,h3,h4⟩:=TX hj;have hl:=r.length;have hn:=zE;have I':Inv X pins σ (upd H p (.lst (xs.set j v))) { s with heap:=s.heap.update p (Obj.mapSeq (·.setIfInBounds j u)) } :=
   I.lstUpd hp ho (UY its n j u) (r.set rv j) (by rw [cX];exact hz) s.toks
 by_cases h0:0<=k
 . have hk:k.toNat=j:=by
     rw [seqIndex_of h0 h4] at h1;exact bh h1
   exact PySem.W.ki_setAt ho h0 (by omega) (by rw [aG,<- hl];exact h4) (by rw [hk];exact ⟨_,I',q⟩)
 . have hk:(k+(its.toArray.size:Int)).toNat=j:=by
     rw [seqIndex_neg (by omega) h3] at h1;rw [aG,<- hl];exact bh h1
   exact PySem.W.ki_setBack ho (by omega) (by rw [aG,<- hl];exact h3) (by omega) (by rw [hk];exact ⟨_,I',q⟩)
theorem P2 (lo hi:Option Int) (n:Nat):(sliceBounds lo hi none n).1=((HT.sIx n 0 lo:Nat):Int)/\(sliceBounds lo hi none n).2.1=((HT.sIx n n hi:Nat):Int)/\(sliceBounds lo hi none n).2.2=1:=by
 refine ⟨?_,?_,rfl⟩
 . cases lo with
   | none=>simp [sliceBounds,HT.sIx]
   | some i =>
     simp only [sliceBounds,HT.sIx,Option.getD_none,show (1:Int) > 0 by decide,if_true];by_cases h:i<0
     . simp only [h,if_true] <;> omega
     . simp only [h,if_false] <;> omega
 . cases hi with
   | none=>simp [sliceBounds,HT.sIx]
   | some i =>
     simp only [sliceBounds,HT.sIx,Option.getD_none,show (1:Int) > 0 by decide,if_true];by_cases h:i<0
     . simp only [h,if_true] <;> omega
     . simp only [h,if_false] <;> omega
theorem OD (its:List Value) (lo hi:Option Int):slicePick its.toArray lo hi none=((its.drop (HT.sIx its.length 0 lo)).take (HT.sIx its.length its.length hi - HT.sIx its.length 0 lo)).toArray:=by
 obtain ⟨h1,h2,h3⟩:=P2 lo hi its.toArray.size;unfold slicePick;rw [h1,h2,h3];simp only [sliceRange_one,pick_run,aG] <;> rfl
def YH (K:PySem.W.Frag):V->Option Int->Option Int->Hp->VK->Prop:=fun x lo hi H Q=>∃ a xs,x=.ref a/\SqL K H a xs/\∀ p,H p=none->Q (.ref p) (upd H p (.lst (Fa xs lo hi)))
theorem qm:SlR X (YH X.K):=by
 intro pins s σ H x v vl vu lo hi sl Q I rx hs pl pu h;obtain ⟨a,xs,rfl,hx,q⟩:=h;cases rx;obtain ⟨its,r,ht,hz⟩:=I.list hx;have hlen:=r.length;refine ⟨"list",_,slot_list_getitem.lookup,ht.isList.typeIs,?_⟩;refine wpAny_getItem_list_slice ht.isList hs pl pu .none (by simp) ?_ (by rw [aG] <;> omega);rw [OD,<- hlen];refine ⟨.ref s.heap.objs.size,_,I.laid (t':=s.toks) (o:=.lst (Fa xs lo hi)) (fun b ob q=>ap _ q) (aA _) ?_,rfl,q _ (I.hok.fresh (aA _))⟩;exact ⟨bP (Sv xs lo hi) hz,_,0,(r.drop (HT.sIx xs.length 0 lo)).take (HT.sIx xs.length xs.length hi - HT.sIx xs.length 0 lo),aJ _ rfl⟩
def yh:V->Bool
 | .non=>true
 | .bl _=>true
 | .int _=>true
 | .str _=>true
 | _=>false
def eqV:V->V->Bool
 | .non,.non=>true
 | .bl a,.bl b=>a == b
 | .bl a,.int b=>(if a then 1 else 0) == b
 | .int a,.bl b=>a == (if b then 1 else 0)
 | .int a,.int b=>a == b
 | .str a,.str b=>a == b
 | _,_=>false
theorem dqa {A:Around} {s:Shared} {y x:V} {u v:Value} (ry:RelV y u) (rx:RelV x v) (fy:yh y=true) (fx:yh x=true):SeqAt.EqAt A s u v (eqV y x):=by
 cases y with
 | non =>
   cases ry;cases x with
   | non=>cases rx;exact SeqAt.EqAt.same _
   | bl b=>cases rx;exact SeqAt.EqAt.none_bool b
   | int b=>obtain ⟨t,rfl⟩:=rx;exact SeqAt.EqAt.none_int b t
   | str b=>obtain ⟨t,rfl⟩:=rx;exact SeqAt.EqAt.none_str b t
   | _=>exact absurd (show false=true from fx) aP
 | bl a =>
   cases ry;cases x with
   | non=>cases rx;exact SeqAt.EqAt.bool_none a
   | bl b=>cases rx;exact SeqAt.EqAt.bool_bool a b
   | int b=>obtain ⟨t,rfl⟩:=rx;exact SeqAt.EqAt.bool_int a b t
   | str b=>obtain ⟨t,rfl⟩:=rx;exact SeqAt.EqAt.bool_str a b t
   | _=>exact absurd (show false=true from fx) aP
 | int a =>
   obtain ⟨t',rfl⟩:=ry;cases x with
   | non=>cases rx;exact SeqAt.EqAt.int_none a t'
   | bl b=>cases rx;exact SeqAt.EqAt.int_bool a t' b
   | int b=>obtain ⟨t,rfl⟩:=rx;exact SeqAt.EqAt.int_int a t' b t
   | str b=>obtain ⟨t,rfl⟩:=rx;exact SeqAt.EqAt.int_str a t' b t
   | _=>exact absurd (show false=true from fx) aP
 | str a =>
   obtain ⟨t',rfl⟩:=ry;cases x with
   | non=>cases rx;exact SeqAt.EqAt.str_none a t'
   | bl b=>cases rx;exact SeqAt.EqAt.str_bool a t' b
   | int b=>obtain ⟨t,rfl⟩:=rx;exact SeqAt.EqAt.str_int a t' b t
   | str b=>obtain ⟨t,rfl⟩:=rx;exact SeqAt.EqAt.str_str a t' b t
   | _=>exact absurd (show false=true from fx) aP
 | _=>exact absurd (show false=true from fy) aP
def eqU (x:V) (u:Value):Bool:=match u with
 | .none=>eqV .non x
 | .bool b=>eqV (.bl b) x
 | .int i _=>eqV (.int i) x
 | .str z _=>eqV (.str z) x
 | _=>false
theorem X2 {x y:V} {u:Value} (r:RelV y u) (f:yh y=true):eqU x u=eqV y x:=by
 cases y with
 | non=>cases r;rfl
 | bl b=>cases r;rfl
 | int i=>obtain ⟨t,rfl⟩:=r;rfl
 | str z=>obtain ⟨t,rfl⟩:=r;rfl
 | _=>exact absurd (show false=true from f) aP
theorem Mj {x:V}:∀ {xs:List V} {us:List Value},Vals xs us->xs.all yh=true->us.any (eqU x)=xs.any fun y=>eqV y x
 | _,_,.nil,_=>rfl
 | y::xs,u::us,.cons r t,f=>by
   rw [qB,bq] at f;rw [gZ,gZ,X2 r f.1,Mj t f.2]
theorem JN {A:Around} {s:Shared} {x:V} {v:Value} (rx:RelV x v) (fx:yh x=true):∀ {xs:List V} {us:List Value},Vals xs us->xs.all yh=true->∀ u∈us,SeqAt.EqAt A s u v (eqU x u)
 | _,_,.nil,_=>fun u hu=>by cases hu
 | y::xs,u::us,.cons r t,f=>fun u' hu=>by
   rw [qB,bq] at f;rcases az.mp hu with rfl|hu
   . rw [X2 r f.1];exact dqa r rx f.1 fx
   . exact JN rx fx t f.2 u' hu
def inV (x:V) (xs:List V):Bool:=xs.any fun y=>eqV y x
def rIn (K:PySem.W.Frag) (neg:Bool):R2:=fun x y H Q=>∃ p xs,y=.ref p/\(SqL K H p xs\/SqT K H p xs)/\yh x=true/\xs.all yh=true/\Q (.bl (if neg then !inV x xs else inV x xs)) H
theorem Xj:OpR X (compareOp .In) (rIn X.K false):=by
 intro pins s σ H x y v u Q I rx ry h;obtain ⟨p,xs,rfl,hq,fx,fs,q⟩:=h;cases ry;rcases hq with hq|hq
 . obtain ⟨its,r,pl,hz⟩:=I.list hq;refine SeqAt.in_listAt (eqU x) pl.isList (fun w hw=>JN rx fx r fs w (by simpa using hw)) ⟨.bl _,H,I,rfl,?_⟩;rw [show its.toArray.any (eqU x)=its.any (eqU x) by simp,Mj r fs];exact q
 . obtain ⟨its,r,pl,hz⟩:=I.tuple hq;refine SeqAt.in_tupleAt (eqU x) pl (fun w hw=>JN rx fx r fs w (by simpa using hw)) ⟨.bl _,H,I,rfl,?_⟩;rw [show its.toArray.any (eqU x)=its.any (eqU x) by simp,Mj r fs];exact q
theorem fV:vo X (.builtin "len") (fun xs H Q=>∃ p ys,xs=[.ref p]/\(SqL X.K H p ys\/SqT X.K H p ys)/\Q (.int ys.length) H):=by
 intro pins s σ H xs us Q I r h;obtain ⟨p,ys,rfl,hq,q⟩:=h;obtain ⟨u,rfl,rx⟩:=Ax r;cases rx;have hn:=zE;rcases hq with hq|hq
 . obtain ⟨its,r',pl,hz⟩:=I.list hq;have hlen:=r'.length;exact Calls.call_len_list pl.isList (by simp only [aG] <;> omega) ⟨.int ys.length,H,I.tok _,⟨s.toks+1,by rw [aG,hlen]⟩,q⟩
 . obtain ⟨its,r',pl,hz⟩:=I.tuple hq;have hlen:=r'.length;exact len_tuple pl (by simp only [aG] <;> omega) ⟨.int ys.length,H,I.tok _,⟨s.toks+1,by rw [aG,hlen]⟩,q⟩
theorem lV:vo X (.type "list") (fun xs H Q=>∃ p ys,xs=[.ref p]/\(SqL X.K H p ys\/SqT X.K H p ys)/\∀ l,H l=none->Q (.ref l) (upd H l (.lst ys))):=by
 intro pins s σ H xs us Q I r h;obtain ⟨p,ys,rfl,hq,q⟩:=h;obtain ⟨u,rfl,rx⟩:=Ax r;cases rx;have fin:∀ (its:List Value),Vals ys its->ys.length<=sizeLine->∀ (h':Heap) (c':Nat),(∀ b o',s.heap.get? b=some o'->h'.get? b=some o') ->
     h'.get? s.heap.objs.size=some { cls:=.type "list",dict:=none,data:=.seq its.toArray c',slots:=#[] }->EP X pins σ Q (.ref s.heap.objs.size) { s with heap:=h' }:=fun its r' hz h' c' kp e =>
   ⟨.ref s.heap.objs.size,_,I.laid (t':=s.toks) kp (aA _) (show ObjOk X.prog X.w _ h' _ (.lst ys) from ⟨hz,its,c',r',e⟩),rfl,q _ (I.hok.fresh (aA _))⟩
 rcases hq with hq|hq
 . obtain ⟨its,r',pl,hz⟩:=I.list hq;have hlen:=r'.length;obtain ⟨o,ho,hc,n,hd⟩:=pl.isList;exact call_list_seq p (.inl rfl) ho hc hd (fun h' c' kp e=>fin its r' hz h' c' kp e) (by simp only [aG] <;> omega)
 . obtain ⟨its,r',pl,hz⟩:=I.tuple hq;have hlen:=r'.length;obtain ⟨o,ho,hc,n,hd⟩:=pl;exact call_list_seq p (.inr rfl) ho hc hd (fun h' c' kp e=>fin its r' hz h' c' kp e) (by simp only [aG] <;> omega)
theorem dM:vo X (.type "tuple") (fun xs H Q=>∃ p ys,xs=[.ref p]/\((SqL X.K H p ys/\∀ l,H l=none->Q (.ref l) (upd H l (.tup ys)))\/(SqT X.K H p ys/\Q (.ref p) H))):=by
 intro pins s σ H xs us Q I r h;obtain ⟨p,ys,rfl,h⟩:=h;obtain ⟨u,rfl,rx⟩:=Ax r;cases rx;rcases h with ⟨hq,q⟩|⟨hq,q⟩
 . obtain ⟨its,r',pl,hz⟩:=I.list hq;have hlen:=r'.length;refine call_tuple_list pl.isList (fun h' kp=>?_) (by simp only [aG] <;> omega);have I1:Inv X pins σ H { s with heap:=h' }:=I.kept (t':=s.toks) kp;have I2:Inv X pins σ (upd H h'.objs.size (.tup ys)) { s with heap:=h'.push { cls:=.type "tuple",data:=.seq its.toArray } } :=
     I1.laid (t':=s.toks) (fun b o e=>ap _ e) (aA _) (show ObjOk X.prog X.w _ _ _ (.tup ys) from ⟨hz,its,r',IsTup.new _ _⟩)
   exact ⟨.ref h'.objs.size,_,I2,rfl,q _ (I1.hok.fresh (aA _))⟩
 . obtain ⟨its,r',pl,hz⟩:=I.tuple hq;exact call_tuple_same pl ⟨.ref p,H,I,rfl,q⟩
def tyV (K:PySem.W.Frag) (T:String) (x:V) (H:Hp):Prop:=match x with
 | .str _=>T="str"
 | .int _=>T="int"
 | .ref p=>(T="list"/\∃ xs,SqL K H p xs)\/(T="tuple"/\∃ o,K.lookup p=some o/\o.cls=.type "tuple"/\o.dict=none) \/
     (T="dict"/\((∃ kvs,H p=some (.dK kvs))\/∃ kvs,H p=some (.dT kvs)))\/(T="set"/\∃ S n,H p=some (.set S n))
 | _=>False
theorem WJ {pins:List (Addr × Obj)} {σ:St} {H:Hp} {s:Shared} {T:String} {x:V} {v:Value} (I:Inv X pins σ H s) (r:RelV x v) (ty:tyV X.K T x H) :
   s.TypeIs v T/\∀ a,v=.ref a->∃ ob,s.heap.get? a=some ob/\ob.dict=none:=by
 cases x with
 | str z =>
   obtain ⟨t,rfl⟩:=r;cases (show T="str" from ty);exact ⟨typeIs_str s z t,fun _ e=>nomatch e⟩
 | int i =>
   obtain ⟨t,rfl⟩:=r;cases (show T="int" from ty);exact ⟨typeIs_int s i t,fun _ e=>nomatch e⟩
 | ref p =>
   cases r;rcases ty with ⟨rfl,xs,hq⟩|⟨rfl,o,hk,hc,hd⟩|⟨rfl,hk⟩|⟨rfl,S,n,hk⟩
   . obtain ⟨its,_,pl,_⟩:=I.list hq;refine ⟨pl.isList.typeIs,fun a e=>?_⟩;cases e;obtain ⟨o,n,e,c,hd,_⟩:=pl;exact ⟨o,e,hd⟩
   . refine ⟨⟨o,I.kIn p o hk,hc⟩,fun a e=>?_⟩;cases e;exact ⟨o,I.kIn _ o hk,hd⟩
   . have z:∃ o,s.heap.get? p=some o/\o.ExactDict:=by
       rcases hk with ⟨kvs,hk⟩|⟨kvs,hk⟩
       . obtain ⟨_,_,_,_,o,_,_,e,ex,_⟩:=I.hok p _ hk;exact ⟨o,e,ex⟩
       . obtain ⟨_,_,_,_,o,_,_,e,ex,_⟩:=I.hok p _ hk;exact ⟨o,e,ex⟩
     obtain ⟨o,e,ex⟩:=z;refine ⟨⟨o,e,ex.1⟩,fun a e2=>?_⟩;cases e2;exact ⟨o,e,ex.2.1⟩
   . obtain ⟨o,_,_,_,e,ex,_⟩:=I.hok p _ hk;refine ⟨⟨o,e,ex.1⟩,fun a e2=>?_⟩;cases e2;exact ⟨o,e,ex.2.1⟩
 | _=>exact False.elim ty
def YF (K:PySem.W.Frag) (T:String) (r:V->List V->Hp->VK->Prop) (to:TE):TE:=fun σ H Q=>to σ H fun x H1=>tyV K T x H1/\r x [] H1 Q
def tBM (K:PySem.W.Frag) (T:String) (r:V->List V->Hp->VK->Prop) (to:TE) (t:TA):TE:=fun σ H Q=>to σ H fun x H1=>tyV K T x H1/\t σ H1 fun xs H2=>r x xs H2 Q
variable {o e:Expr} {es:List Expr} {to:TE} {t:TA} {name:Str} {apos cpos:Pos} {T id:String} {r:V->List V->Hp->VK->Prop}
theorem P3 (pa:PlainAttrs T) (slot:Slot T name id) (hty:typeOf (.builtin id)=pure (.type "method_descriptor")) (hm:MtR X id r) (ho:PE X o to)
   (hbase:attributeBase o name X.env (eval o X.env)=eval o X.env:=by rfl) (hline:(apos.endLine == cpos.line)=true:=by rfl):PE X (.Call (.Attribute o name apos) [] [] cpos) (YF X.K T r to):=by
 intro pins s σ H Q I h;refine wpAny_Call_method0_late hbase hline (dg (ho pins s σ H _ I h) fun v s1 x H1 I1 r1 ⟨ty,q1⟩=>?_);obtain ⟨h1,h2⟩:=WJ I1 r1 ty;exact ⟨T,id,pa,slot,hty,h1,h2,Calls.callWith_builtin rfl (PySem.evalArgs_none (hm pins s1 σ H1 x [] v [] Q I1 r1 .nil q1))⟩
theorem ki (pa:PlainAttrs T) (slot:Slot T name id) (hty:typeOf (.builtin id)=pure (.type "method_descriptor")) (hm:MtR X id r) (ho:PE X o to) (ha:PA X (e::es) t)
   (hbase:attributeBase o name X.env (eval o X.env)=eval o X.env:=by rfl)
   (hfew:((backTo cpos (starEach (e::es) X.env)).all (fun x=>!x.1) && (backToKw cpos (keywordEach [] X.env)).all (fun x=>x.1.isSome)
     && decide ((e::es).length+([]:List Keyword).length+(if ([]:List Keyword).isEmpty then 0 else 1)<30))=true:=by rfl)
   (hline:(apos.endLine == cpos.line)=true:=by rfl) (hs:starEach (e::es) X.env=(false,eval e X.env)::starEach es X.env:=by rfl) (hplain:(backTo cpos (starEach es X.env)).any (·.1)=false:=by rfl) :
   PE X (.Call (.Attribute o name apos) (e::es) [] cpos) (tBM X.K T r to t):=by
 intro pins s σ H Q I h;refine wpAny_Call_method_late hbase hfew hline rfl (dg (ho pins s σ H _ I h) fun v s1 x H1 I1 r1 ⟨ty,q1⟩=>?_);obtain ⟨h1,h2⟩:=WJ I1 r1 ty;refine ⟨T,id,pa,slot,hty,h1,h2,?_⟩;have hA:=ha cpos pins s1 σ H1 _ I1 q1;rw [hs] at hA ⊢;refine Calls.callWith_builtin (by show (false || (backTo cpos (starEach es X.env)).any (·.1))=false;rw [hplain] <;> rfl) (ii ?_);exact thn hA fun us s2 ⟨vs,H2,I2,r2,q2⟩=>hm pins s2 σ H2 x vs v us Q I2 r1 r2 q2
end
end L2
namespace L2
open PySem PySem.Spec PyProof.Rows
def MtM (X:Cx) (id:String) (r:V->List V->Hp->VK->Prop):Prop :=
 ∀ (pins:List (Addr × Obj)) (s:Shared) (σ:St) (H:Hp) (x:V) (xs:List V) (v:Value) (us:List Value) (Q:VK),Inv X pins σ H s->RelV x v->Vals xs us->r x xs H Q ->
   wpAny (model X.prog X.w) X.A (call (.builtin id) (v::us)) (EP X pins σ Q) X.xe s
theorem Vals.one {x:V} {us:List Value} (h:Vals [x] us):∃ u,us=[u]/\RelV x u:=by
 cases h with
 | cons r t=>cases t;exact ⟨_,rfl,r⟩
theorem Vals.two {x y:V} {us:List Value} (h:Vals [x,y] us):∃ u v,us=[u,v]/\RelV x u/\RelV y v:=by
 cases h with
 | cons r t =>
   obtain ⟨v,e,q⟩:=Vals.one t;subst e;exact ⟨_,v,rfl,r,q⟩
theorem Vals.zero:∀ {us:List Value},Vals [] us->us=[]
 | _,.nil=>rfl
theorem Vals.dropLast {xs:List V} {us:List Value} (h:Vals xs us):Vals xs.dropLast us.dropLast:=by
 induction h with
 | nil=>exact .nil
 | cons r t ih =>
   cases t with
   | nil=>exact .nil
   | cons q t'=>exact .cons r ih
theorem Vals.reverse {xs:List V} {us:List Value} (h:Vals xs us):Vals xs.reverse us.reverse:=by
 induction h with
 | nil=>exact .nil
 | cons r t ih=>rw [fH,fH];exact Vals.append ih (.cons r .nil)
theorem Vals.rep {xs:List V} {us:List Value} (h:Vals xs us):∀ k:Nat,Vals (List.replicate k xs).flatten (List.replicate k us).flatten
 | 0=>.nil
 | k+1=>by
   rw [cF,cF,fP,fP];exact Vals.append h (Vals.rep h k)
theorem Vq {α:Type} (l:List α):l.eraseIdx (l.length - 1)=l.dropLast:=by
 induction l with
 | nil=>rfl
 | cons a r ih =>
   cases r with
   | nil=>rfl
   | cons b r =>
     have e:(a::b::r).length - 1=((b::r).length - 1)+1:=by
       have h1:(a::b::r).length=r.length+2:=rfl;have h2:(b::r).length=r.length+1:=rfl;omega
     rw [e,List.eraseIdx_cons_succ,ih]
     all_goals rfl
theorem MO (its:List Value):∀ (k:Nat) (acc:List Value),
   List.foldl (fun x1 x2=>x1++x2) acc.toArray (List.replicate k its.toArray)=(acc++(List.replicate k its).flatten).toArray
 | 0,acc=>by simp
 | k+1,acc=>by
   have e:acc.toArray++its.toArray=(acc++its).toArray:=by simp
   have e2:(acc++its)++(List.replicate k its).flatten=acc++(List.replicate (k+1) its).flatten:=by
     rw [cF,fP,cq]
   rw [<- e2,<- MO its k (acc++its),<- e,cF,List.foldl_cons]
section
variable {X:Cx} {pins:List (Addr × Obj)} {σ:St} {H:Hp} {s:Shared} {l b:Addr} {xs ys zs:List V}
theorem Inv.lset {its its':List Value} {n:Nat} {f:Array Value->Array Value} {t':Nat} (I:Inv X pins σ H s) (hH:H l=some (.lst xs))
   (e:s.heap.get? l=some { cls:=.type "list",data:=.seq its.toArray n }) (hf:f its.toArray=its'.toArray) (hv:Vals ys its') (hz:ys.length<=sizeLine) :
   Inv X pins σ (upd H l (.lst ys)) { s with heap:=s.heap.update l (Obj.mapSeq f),toks:=t' }:=by
 have q:=PySem.IsL.update e f;rw [hf] at q;refine I.write (x:=l) (e:=l) (by rw [hH];exact trivial) (.inl rfl) (fun b' u hb hu=>(bR s.heap (Obj.mapSeq f) (Ne.symm hb)).trans hu) ⟨_,q⟩ ?_;exact ⟨hz,its',_,hv,q⟩
theorem Inv.lnew {its:List Value} {t':Nat} (I:Inv X pins σ H s) (hv:Vals ys its) (hz:ys.length<=sizeLine) :
   Inv X pins σ (upd H s.heap.objs.size (.lst ys)) { s with heap:=s.heap.push { cls:=.type "list",data:=.seq its.toArray },toks:=t' } :=
 I.laid (fun _ _ q=>ap _ q) (aA _) ⟨hz,its,0,hv,aJ _ rfl⟩
theorem Inv.fresh (I:Inv X pins σ H s):H s.heap.objs.size=none:=I.hok.fresh (aA _)
theorem Inv.lstM (I:Inv X pins σ H s) (hH:H l=some (.lst xs)):xs.length<=sizeLine/\∃ (its:List Value) (n:Nat),Vals xs its/\xs.length=its.length/\s.heap.get? l=some { cls:=.type "list",data:=.seq its.toArray n }:=by
 obtain ⟨z,its,n,r,e⟩:=I.hok l _ hH;exact ⟨z,its,n,r,r.length,e⟩
theorem O3 {n:Nat} (h:n<=sizeLine):Builtin.List.listTooLong n=false:=by
 unfold Builtin.List.listTooLong;exact bZ (by omega)
end
section
variable {X:Cx}
def rAppend:V->List V->Hp->VK->Prop:=fun x vs H Q=>∃ l xs y,x=.ref l/\vs=[y]/\H l=some (.lst xs)/\xs.length<sizeLine/\Q .non (upd H l (.lst (xs++[y])))
theorem eI:MtM X "list.append" rAppend:=by
 intro pins s σ H x vs v us Q I rx rv h;obtain ⟨l,xs,y,rfl,rfl,hH,hz,q⟩:=h;cases rx;obtain ⟨u,rfl,ru⟩:=rv.one;obtain ⟨z,its,n,r,hl,e⟩:=I.lstM hH;refine call_meets F.slot_list_append ⟨_,e,rfl⟩ F.entry_list_append (F.args_list_append_2 _ _) (PySem.list_append l its.toArray n u (by rw [aG];omega)) ⟨e,?_⟩;refine ⟨.non,_,I.lset (its':=its++[u]) hH e (by simp) (r.append (.cons ru .nil)) ?_,rfl,q⟩;rw [au,List.length_singleton];omega
def rExtend:V->List V->Hp->VK->Prop:=fun x vs H Q=>∃ l b xs zs,x=.ref l/\vs=[.ref b]/\H l=some (.lst xs)/\H b=some (.lst zs)/\xs.length+zs.length<=sizeLine/\Q .non (upd H l (.lst (xs++zs)))
theorem V7:MtM X "list.extend" rExtend:=by
 intro pins s σ H x vs v us Q I rx rv h;obtain ⟨l,b,xs,zs,rfl,rfl,hH,hB,hz,q⟩:=h;cases rx;obtain ⟨u,rfl,ru⟩:=rv.one;cases ru;obtain ⟨z,its,n,r,hl,e⟩:=I.lstM hH;obtain ⟨z2,its2,n2,r2,hl2,e2⟩:=I.lstM hB;have hsz:its.toArray.size+its2.toArray.size<=sizeLine:=by rw [aG,aG];omega
 have hlong:¬ (!its.toArray.isEmpty && Builtin.List.listTooLong (its.toArray.size+its2.toArray.size))=true:=by
   rw [O3 hsz,qA];exact aP
 refine call_meets F.slot_list_extend ⟨_,e,rfl⟩ F.entry_list_extend (F.args_list_extend_2 _ _)
   (AutoSeq1.list_extend_list_list_0 l its.toArray n b its2.toArray n2 hlong (by rw [aG];omega) (by omega)) ⟨e,e2,?_⟩
 refine ⟨.non,_,I.lset (its':=its++its2) hH e (by simp) (r.append r2) ?_,rfl,q⟩;rw [au];omega
def rPop:V->List V->Hp->VK->Prop:=fun x vs H Q=>∃ l xs y,x=.ref l/\vs=[]/\H l=some (.lst xs)/\xs[xs.length - 1]?=some y/\Q y (upd H l (.lst xs.dropLast))
theorem Rz:MtM X "list.pop" rPop:=by
 intro pins s σ H x vs v us Q I rx rv h;obtain ⟨l,xs,y,rfl,rfl,hH,hy,q⟩:=h;cases rx;have hus:=rv.zero;subst hus;obtain ⟨z,its,n,r,hl,e⟩:=I.lstM hH;obtain ⟨u,hu,ru⟩:=r.get hy;have hy':its.toArray[its.toArray.size - 1]?=some u:=by
   show its.toArray[its.length - 1]?=some u;rw [<- dL,<- hl];exact hu
 refine call_meets F.slot_list_pop ⟨_,e,rfl⟩ F.entry_list_pop (F.args_list_pop_1 _) (MeetsSeq.list_pop_last l its.toArray n u hy' (by rw [aG];omega)) ⟨e,?_⟩;refine ⟨y,_,I.lset (its':=its.dropLast) hH e ?_ r.dropLast ?_,ru,q⟩
 . show its.toArray.eraseIdxIfInBounds (its.toArray.size - 1)=its.dropLast.toArray;rw [aG,List.eraseIdxIfInBounds_toArray,Vq]
 . rw [List.length_dropLast];omega
def rCat:R2:=fun x y H Q=>∃ l b xs zs,x=.ref l/\y=.ref b/\H l=some (.lst xs)/\H b=some (.lst zs)/\xs.length+zs.length<=sizeLine/\∀ p,H p=none->Q (.ref p) (upd H p (.lst (xs++zs)))
theorem sY:OpR X (binaryOp .Add) rCat:=by
 intro pins s σ H x y v u Q I rx ry h;obtain ⟨l,b,xs,zs,rfl,rfl,hH,hB,hz,q⟩:=h;cases rx;cases ry;obtain ⟨z,its,n,r,hl,e⟩:=I.lstM hH;obtain ⟨z2,its2,n2,r2,hl2,e2⟩:=I.lstM hB;refine PySem.P.add_list e e2 ?_ (by rw [aG,aG];omega);have ea:its.toArray++its2.toArray=(its++its2).toArray:=by simp
 rw [ea];exact ⟨.ref _,_,I.lnew (t':=s.toks) (r.append r2) (by rw [au];omega),rfl,q _ I.fresh⟩
def rRep:R2:=fun x y H Q=>∃ l k xs,x=.ref l/\y=.int k/\H l=some (.lst xs)/\-(2^63)<=k/\k<2^63/\xs.length*k.toNat<=sizeLine /\
 ∀ p,H p=none->Q (.ref p) (upd H p (.lst (List.replicate k.toNat xs).flatten))
theorem cia {α:Type} (xs:List α) (k:Nat):(List.replicate k xs).flatten.length=k*xs.length:=by
 induction k with
 | zero=>simp
 | succ k ih=>rw [cF,fP,au,ih,Nat.succ_mul,Nat.add_comm]
theorem Qk:OpR X (binaryOp .Mult) rRep:=by
 intro pins s σ H x y v u Q I rx ry h;obtain ⟨l,k,xs,rfl,rfl,hH,h1,h2,hz,q⟩:=h;cases rx;obtain ⟨t,rfl⟩:=ry;obtain ⟨z,its,n,r,hl,e⟩:=I.lstM hH;have hlen:its.toArray.size*k.toNat<=sizeLine:=by rw [aG,<- hl];exact hz
 have hcap:¬ its.toArray.size*k.toNat > (2^63 - 1) / 8:=by
   have:(sizeLine:Nat)<=(2^63 - 1) / 8:=by decide
   omega
 have hfit:¬ (!Builtin.List.listFitsIndex k)=true:=by
   rw [fitsIndex_both h1 h2];exact aP
 have hlong:¬ Builtin.List.listTooLong (its.toArray.size*k.toNat)=true:=by
   rw [O3 hlen];exact aP
 have hnew:List.foldl (fun x1 x2=>x1++x2) #[] (List.replicate (if its.toArray.isEmpty=true then 0 else k.toNat) its.toArray)=(List.replicate k.toNat its).flatten.toArray:=by
   have f0:∀ m:Nat,List.foldl (fun x1 x2=>x1++x2) #[] (List.replicate m its.toArray)=(List.replicate m its).flatten.toArray:=fun m=>by
     have:=MO its m [];rw [ic] at this;exact this
   rw [f0];cases its with
   | nil=>simp
   | cons a r'=>rw [aj (by simp)]
 refine wpAny_binaryOp_repeat_ref (T:="list") (U:="int") (by decide) ⟨_,e,rfl⟩ (fun s'=>typeIs_int s' k t) noFill_list_mul F.fills_int_mul F.slot_int_rmul repeat_list F.slot_int_index.lookup
   (call_meets F.slot_int_rmul (typeIs_int s k t) F.entry_int_rmul (F.args_int_rmul_2 _ _) (int___rmul___int_list k t l its.toArray n)
     ⟨e,rfl,⟨_,e,rfl⟩,call_meets F.slot_list_mul ⟨_,e,rfl⟩ F.entry_list_mul (F.args_list_mul_2 _ _) (AutoListH.list___mul___list_int_3 l its.toArray n k t hfit hcap hlong) ⟨e,?_⟩⟩)
 rw [hnew];exact ⟨.ref _,_,I.lnew (t':=s.toks) (r.rep k.toNat) (by rw [cia,Nat.mul_comm];exact hz),rfl,q _ I.fresh⟩
end
section
variable {prog:Program} {w:World} {A:Around} {E:Value->Shared->Prop} {s:Shared}
set_option maxRecDepth 100000 in
end
end L2
namespace L2
open PySem PySem.Spec PyProof.Rows
section
variable {κ:Type} [DecidableEq κ]
def iH (kvs:List (κ × V)) (k:κ):Option V:=(kvs.find? fun kv=>decide (kv.1=k)).map (·.2)
def jE (kvs:List (κ × V)) (k:κ) (v:V):List (κ × V) :=
 if (kvs.any fun kv=>decide (kv.1=k))=true then kvs.map (fun kv=>if kv.1=k then (kv.1,v) else kv) else kvs++[(k,v)]
theorem kD {p:κ × V} {r:List (κ × V)} {k:κ} (e:p.1=k):iH (p::r) k=some p.2:=by simp [iH,gr,e]
theorem kK {p:κ × V} {r:List (κ × V)} {k:κ} (e:¬ p.1=k):iH (p::r) k=iH r k:=by simp [iH,gr,e]
theorem yU (k:κ):∀ kvs:List (κ × V),(kvs.any fun kv=>decide (kv.1=k))=(iH kvs k).isSome
 | []=>rfl
 | p::r=>by
   rw [gZ];by_cases e:p.1=k
   . simp only [kD e,bH e,Bool.true_or,Option.isSome_some]
   . rw [kK e,bZ e,Bool.false_or];exact yU k r
theorem Ri (k j:κ) (y:V):∀ kvs:List (κ × V),iH (kvs.map fun kv=>if kv.1=k then (kv.1,y) else kv) j=(iH kvs j).map fun x=>if j=k then y else x
 | []=>rfl
 | p::r=>by
   have ih:=Ri k j y r;rw [aW];by_cases h:p.1=k
   . rw [am h];by_cases e:p.1=j
     . rw [kD (p:=(p.1,y)) e,kD e,jO,am (e.symm.trans h)]
     . rw [kK (p:=(p.1,y)) e,kK e,ih]
   . rw [aj h];by_cases e:p.1=j
     . rw [kD (p:=p) e,kD e,jO,aj (fun z=>h (e.trans z))]
     . rw [kK (p:=p) e,kK e,ih]
theorem Nv (k j:κ) (y:V):∀ kvs:List (κ × V),iH kvs k=none->iH (kvs++[(k,y)]) j=if j=k then some y else iH kvs j
 | [],_=>by
   by_cases e:k=j
   . rw [am e.symm];exact kD (p:=(k,y)) e
   . rw [aj (fun z=>e z.symm)];exact kK (p:=(k,y)) e
 | p::r,hn=>by
   rw [nR];have hk:¬ p.1=k:=fun z=>by rw [kD z] at hn;cases hn
   rw [kK hk] at hn;have ih:=Nv k j y r hn;by_cases e:p.1=j
   . rw [kD e,kD e,aj (fun z=>hk (e.trans z))]
   . rw [kK e,kK e,ih]
theorem PM (kvs:List (κ × V)) (k j:κ) (y:V):iH (jE kvs k y) j=if j=k then some y else iH kvs j:=by
 unfold jE;by_cases a:(kvs.any fun kv=>decide (kv.1=k))=true
 . rw [am a,Ri];rw [yU] at a;by_cases e:j=k
   . obtain ⟨x,hx⟩:=eK.mp a;rw [am e,e,hx,jO,am rfl]
   . rw [aj e];cases iH kvs j with
     | none=>rfl
     | some x=>rw [jO,aj e]
 . rw [aj a];refine Nv k j y kvs ?_;rw [yU] at a;cases q:iH kvs k with
   | none=>rfl
   | some x=>rw [q] at a;exact (a rfl).elim
theorem tD (kvs:List (κ × V)) (k:κ) (v:V):(jE kvs k v).length<=kvs.length+1:=by
 unfold jE;split
 . rw [ak];omega
 . rw [au,aQ,f7];omega
theorem aPa {kvs:List (κ × V)} {k:κ} (v:V) (h:iH kvs k=none):jE kvs k v=kvs++[(k,v)]:=by
 unfold jE;rw [yU,h];exact aj (by decide)
theorem RelO.isSome_eq {o:Option V} {u:Option Value} (r:RelO o u):o.isSome=u.isSome:=by
 cases o with
 | none=>cases u with
   | none=>rfl
   | some _=>exact (show False from r).elim
 | some _=>cases u with
   | none=>exact (show False from r).elim
   | some _=>rfl
theorem KV.val {kvs:List (κ × V)} {vs:List (κ × Value)} (r:KV kvs vs) (k:κ):RelO (iH kvs k) (valueAt vs k):=by
 unfold KV at r
 induction r with
 | nil=>exact True.intro
 | @cons p q ps qs h t ih =>
   obtain ⟨h1,h2⟩:=h;by_cases e:p.1=k
   . have e':q.1=k:=h1.symm.trans e;have b:valueAt (q::qs) k=some q.2:=(by simp [valueAt,gr,e']);rw [kD e,b];exact h2
   . have e':¬ q.1=k:=fun z=>e (h1.trans z);have b:valueAt (q::qs) k=valueAt qs k:=(by simp [valueAt,gr,e']);rw [kK e,b];exact ih
theorem KV.any {kvs:List (κ × V)} {vs:List (κ × Value)} (r:KV kvs vs) (k:κ):(kvs.any fun kv=>decide (kv.1=k))=vs.any fun kv=>decide (kv.1=k):=by
 unfold KV at r
 induction r with
 | nil=>rfl
 | cons h t ih=>rw [gZ,gZ,ih,h.1]
theorem KV.repl {kvs:List (κ × V)} {vs:List (κ × Value)} (r:KV kvs vs) (k:κ) {y:V} {u:Value} (ry:RelV y u) :
   KV (kvs.map fun kv=>if kv.1=k then (kv.1,y) else kv) (vs.map fun kv=>if kv.1=k then (kv.1,u) else kv):=by
 unfold KV at r ⊢
 induction r with
 | nil=>exact .nil
 | @cons p q ps qs h t ih =>
   rw [aW,aW];refine .cons ?_ ih;obtain ⟨h1,h2⟩:=h;by_cases e:p.1=k
   . rw [am e,am (h1.symm.trans e)];exact ⟨h1,ry⟩
   . rw [aj e,aj (fun z=>e (h1.trans z))];exact ⟨h1,h2⟩
theorem KV.put {kvs:List (κ × V)} {vs:List (κ × Value)} (r:KV kvs vs) (k:κ) {y:V} {u:Value} (ry:RelV y u):KV (jE kvs k y) (stored vs k u):=by
 unfold jE stored;rw [r.any k];by_cases e:(vs.any fun kv=>decide (kv.1=k))=true
 . rw [am e,am e];exact r.repl k ry
 . rw [aj e,aj e];exact Paired.snoc r ⟨rfl,ry⟩
theorem KV.length {kvs:List (κ × V)} {vs:List (κ × Value)} (r:KV kvs vs):kvs.length=vs.length:=Paired.length r
end
theorem GG {P:Program} {w:World} {k:Key} {u:Value} (r:RelV (kV k) u):(jb P w).is k u=true:=by
 cases k with
 | inl i=>obtain ⟨t,e⟩:=(show ∃ t,u=Value.int i t from r);subst e;exact RN P w i t
 | inr x=>obtain ⟨t,e⟩:=(show ∃ t,u=Value.str x t from r);subst e;exact SD P w x t
theorem NC {P:Program} {w:World}:∀ {ks:List Key} {us:List Value},Vals (ks.map kV) us->ItemsAre (jb P w) ks us
 | [],_,r=>by rw [gc] at r;cases r;exact .nil
 | k::ks,_,r=>by
   rw [aW] at r;cases r with
   | cons h t=>exact .cons (GG h) (NC t)
abbrev KT (H:Hp):List (List Key × V)->List (List Key × Addr × Value)->Prop:=Paired fun p q=>p.1=q.1/\H q.2.1=some (.tup (p.1.map kV))/\RelV p.2 q.2.2
theorem KT.val {H:Hp} {kvs:List (List Key × V)} {xs:List (List Key × Addr × Value)} (r:KT H kvs xs) (k:List Key):RelO (iH kvs k) ((atKey xs k).map (·.2)):=by
 induction r with
 | nil=>exact True.intro
 | @cons p q ps qs h t ih =>
   obtain ⟨h1,_,h2⟩:=h;by_cases e:p.1=k
   . have e':q.1=k:=h1.symm.trans e;have b:atKey (q::qs) k=some q.2:=(by simp [atKey,gr,e']);rw [kD e,b];exact h2
   . have e':¬ q.1=k:=fun z=>e (h1.trans z);have b:atKey (q::qs) k=atKey qs k:=(by simp [atKey,gr,e']);rw [kK e,b];exact ih
theorem KT.repl {H:Hp} {kvs:List (List Key × V)} {xs:List (List Key × Addr × Value)} (r:KT H kvs xs) (k:List Key) {y:V} {u:Value} (ry:RelV y u) :
   KT H (kvs.map fun kv=>if kv.1=k then (kv.1,y) else kv) (xs.map (putAt k u)):=by
 induction r with
 | nil=>exact .nil
 | @cons p q ps qs h t ih =>
   rw [aW,aW];refine .cons ?_ ih;obtain ⟨h1,h2,h3⟩:=h;unfold putAt;by_cases e:p.1=k
   . rw [am e,am (h1.symm.trans e)];exact ⟨h1,h2,ry⟩
   . rw [aj e,aj (fun z=>e (h1.trans z))];exact ⟨h1,h2,h3⟩
theorem KT.put {H:Hp} {kvs:List (List Key × V)} {xs:List (List Key × Addr × Value)} (r:KT H kvs xs) (k:List Key) {b:Addr} {y:V} {u:Value} (hb:H b=some (.tup (k.map kV))) (ry:RelV y u) :
   KT H (jE kvs k y) (storedH xs k b u):=by
 have e:(kvs.any fun kv=>decide (kv.1=k))=(atKey xs k).isSome:=by
   rw [yU,(r.val k).isSome_eq,gL]
 unfold jE storedH;rw [e];by_cases q:(atKey xs k).isSome=true
 . rw [am q,am q];exact r.repl k ry
 . rw [aj q,aj q];exact Paired.snoc r ⟨rfl,hb,ry⟩
theorem KT.keeps {H H':Hp} {kvs:List (List Key × V)} {xs:List (List Key × Addr × Value)} (r:KT H kvs xs) (ht:∀ b ys,H b=some (.tup ys)->H' b=some (.tup ys)):KT H' kvs xs :=
 Paired.mapP r fun _ _ z=>⟨z.1,ht _ _ z.2.1,z.2.2⟩
section
variable {P:Program} {w:World} {H:Hp} {h:Heap} {a:Addr}
theorem bJa {u:HO} (ok:HOk P w H h) (e:Rd H a u):ObjOk P w H h a u:=e.ok ok
theorem GI {kvs:List (Key × V)} (ok:HOk P w H h) (e:Rd H a (.dK kvs)):kvs.length<=sizeLine/\(a == sysModules)=false/\∃ vs,KV kvs vs/\h.DictOf (jb P w) a vs :=
 show ObjOk P w H h a (.dK kvs) from bJa ok e
theorem bEa {kvs:List (Key × V)} (ok:HOk P w H h) (e:H a=some (.dK kvs)):kvs.length<=sizeLine/\(a == sysModules)=false/\∃ vs,KV kvs vs/\h.DictOf (jb P w) a vs:=GI ok (.inl e)
theorem EO {ks:List Key} (ok:HOk P w H h) (e:H a=some (.tup (ks.map kV))):(tupleKind (jb P w)).is h ks a:=by
 obtain ⟨_,its,r,o,h1,h2,n,h3⟩:=(show ObjOk P w H h a (.tup (ks.map kV)) from ok a _ e);exact ⟨o,its.toArray,n,h1,h2,h3,by simpa using NC r⟩
theorem KY {kvs:List (List Key × V)} (ok:HOk P w H h) (e:Rd H a (.dT kvs)):kvs.length<=sizeLine/\(a == sysModules)=false /\
   ∃ xs,KT H kvs xs/\h.DictOfH (tupleKind (jb P w)) a xs:=by
 obtain ⟨z,y,xs,r,o,es,ep,h1,h2,h3,h4,h5⟩:=(show ObjOk P w H h a (.dT kvs) from bJa ok e);refine ⟨z,y,xs,r,o,es,ep,h1,h2,h3,h4,fun x hx=>?_,h5⟩;have all:∀ {l:List (List Key × V)} {m:List (List Key × Addr × Value)},KT H l m->∀ x∈m,(tupleKind (jb P w)).is h x.1 x.2.1:=by
   intro l m q
   induction q with
   | nil=>intro x hx;exact nomatch hx
   | @cons p q ps qs hq t ih =>
     intro x hx;rcases az.mp hx with e|hx
     . subst e;exact EO ok (by rw [<- hq.1];exact hq.2.1)
     . exact ih x hx
 exact all r x hx
theorem bGa {kvs:List (List Key × V)} (ok:HOk P w H h) (e:H a=some (.dT kvs)):kvs.length<=sizeLine/\(a == sysModules)=false /\
   ∃ xs,KT H kvs xs/\h.DictOfH (tupleKind (jb P w)) a xs:=KY ok (.inl e)
end
def DGet (H:Hp) (a:Addr) (y:V) (r:Option V):Prop :=
 (∃ kvs k,Rd H a (.dK kvs)/\y=kV k/\r=iH kvs k)\/∃ kvs k b,Rd H a (.dT kvs)/\y=.ref b/\H b=some (.tup (k.map kV))/\r=iH kvs k
def DPut (H:Hp) (a:Addr) (y v:V) (H':Hp):Prop :=
 (∃ kvs k,H a=some (.dK kvs)/\y=kV k/\kvs.length<sizeLine/\H'=upd H a (.dK (jE kvs k v))) \/
 ∃ kvs k b,H a=some (.dT kvs)/\y=.ref b/\H b=some (.tup (k.map kV))/\kvs.length<sizeLine/\H'=upd H a (.dT (jE kvs k v))
theorem DGet.k {H:Hp} {a:Addr} {kvs:List (Key × V)} {k:Key} (e:H a=some (.dK kvs)):DGet H a (kV k) (iH kvs k):=.inl ⟨kvs,k,.inl e,rfl,rfl⟩
theorem DGet.t {H:Hp} {a b:Addr} {kvs:List (List Key × V)} {k:List Key} (e:H a=some (.dT kvs)) (eb:H b=some (.tup (k.map kV))):DGet H a (.ref b) (iH kvs k):=.inr ⟨kvs,k,b,.inl e,rfl,eb,rfl⟩
theorem DPut.k {H:Hp} {a:Addr} {kvs:List (Key × V)} {k:Key} {v:V} (e:H a=some (.dK kvs)) (hl:kvs.length<sizeLine):DPut H a (kV k) v (upd H a (.dK (jE kvs k v))):=.inl ⟨kvs,k,e,rfl,hl,rfl⟩
theorem DPut.t {H:Hp} {a b:Addr} {kvs:List (List Key × V)} {k:List Key} {v:V} (e:H a=some (.dT kvs)) (eb:H b=some (.tup (k.map kV))) (hl:kvs.length<sizeLine) :
   DPut H a (.ref b) v (upd H a (.dT (jE kvs k v))):=.inr ⟨kvs,k,b,e,rfl,eb,hl,rfl⟩
section
variable {X:Cx} {pins:List (Addr × Obj)} {σ:St} {H:Hp} {s:Shared} {a:Addr} {y v:V} {u r:Value} {o:Option V} {A:Around} {E:Value->Shared->Prop}
theorem Inv.big (I:Inv X pins σ H s):sysModules<s.heap.objs.size:=by
 have h:mainGlobals<s.heap.objs.size:=(I.mod.glob.keeps I.bk).lt;exact Nat.lt_trans (by decide) h
theorem V6 {Q:Value->Shared->Prop} (hu:A.units+1<cLine) (I:Inv X pins σ H s) (g:DGet H a y (some v)) (ry:RelV y u) (h:∀ w' s',Inv X pins σ H s'->RelV v w'->Q w' s') :
   wpAny (model X.prog X.w) A (getItem (.ref a) u) Q E s:=by
 rcases g with ⟨kvs,k,e,ey,l⟩|⟨kvs,k,b,e,ey,eb,l⟩
 . subst ey;obtain ⟨z,hd,vs,rel,dd⟩:=GI I.hok e;obtain ⟨w',hw,rw'⟩:=RelO.some_of (v:=v) (o:=valueAt vs k) (by rw [l];exact rel.val k);exact wpAny_getItem_of (GG ry) dd.mapOf hw (h w' _ (I.tok _) rw')
 . subst ey;cases (show u=Value.ref b from ry);obtain ⟨z,hd,xs,rel,dd⟩:=KY I.hok e;obtain ⟨w',hw,rw'⟩:=RelO.some_of (v:=v) (o:=(atKey xs k).map (·.2)) (by rw [l];exact rel.val k);obtain ⟨p,hp,hp2⟩:=bM.mp hw;refine wpAny_getItem_heap (tupleKind_room_in1 hu) (EO I.hok eb) dd hp ?_;rw [hp2];exact h w' _ (I.tok _) rw'
theorem eUa {Q:Value->Shared->Prop} (hu:A.units+1<cLine) (I:Inv X pins σ H s) (g:DGet H a y o) (ry:RelV y u) (h:∀ s',Inv X pins σ H s'->Q (.bool o.isSome) s') :
   wpAny (model X.prog X.w) A (compareOp .In u (.ref a)) Q E s:=by
 rcases g with ⟨kvs,k,e,ey,l⟩|⟨kvs,k,b,e,ey,eb,l⟩
 . subst ey;obtain ⟨z,hd,vs,rel,dd⟩:=GI I.hok e;refine wpAny_in_of (GG ry) hd dd.mapOf ?_;rw [<- (rel.val k).isSome_eq,<- l];exact h _ (I.tok _)
 . subst ey;cases (show u=Value.ref b from ry);obtain ⟨z,hd,xs,rel,dd⟩:=KY I.hok e;refine wpAny_in_heap (tupleKind_room_in1 hu) (EO I.hok eb) hd dd ?_;have q:=(rel.val k).isSome_eq;rw [gL] at q;rw [<- q,<- l];exact h _ (I.tok _)
theorem cWa {Q:Value->Shared->Prop} (hu:A.units+1<cLine) (I:Inv X pins σ H s) (g:DGet H a y o) (ry:RelV y u) (h:∀ s',Inv X pins σ H s'->Q (.bool (!o.isSome)) s') :
   wpAny (model X.prog X.w) A (compareOp .NotIn u (.ref a)) Q E s:=by
 rcases g with ⟨kvs,k,e,ey,l⟩|⟨kvs,k,b,e,ey,eb,l⟩
 . subst ey;obtain ⟨z,hd,vs,rel,dd⟩:=GI I.hok e;refine wpAny_notIn_of (GG ry) hd dd.mapOf ?_;rw [<- (rel.val k).isSome_eq,<- l];exact h _ (I.tok _)
 . subst ey;cases (show u=Value.ref b from ry);obtain ⟨z,hd,xs,rel,dd⟩:=KY I.hok e;refine wpAny_notIn_heap (tupleKind_room_in1 hu) (EO I.hok eb) hd dd ?_;have q:=(rel.val k).isSome_eq;rw [gL] at q;rw [<- q,<- l];exact h _ (I.tok _)
theorem Ms {h':Heap} {t':Nat} {ob:HO} (I:Inv X pins σ H s) (mu:Mut (H a)) (hs:Heap.SameBut a s.heap h') (he:∃ q,h'.get? a=some q) (new:ObjOk X.prog X.w (upd H a ob) h' a ob) :
   Inv X pins σ (upd H a ob) { s with heap:=h',toks:=t' } :=
 I.write (x:=a) (e:=a) mu (.inl rfl) (fun b q hb z=>(hs.2 b hb).trans z) he new
theorem XY {P:Program} {w:World} {H':Hp} {h':Heap} {kvs:List (Key × V)} {vs:List (Key × Value)} (z:kvs.length<=sizeLine) (hd:(a == sysModules)=false) (rel:KV kvs vs) (dd:h'.DictOf (jb P w) a vs) :
   ObjOk P w H' h' a (.dK kvs):=⟨z,hd,vs,rel,dd⟩
theorem V5 {H':Hp} {Q:Unit->Shared->Prop} (hu:A.units+1<cLine) (I:Inv X pins σ H s) (g:DPut H a y v H') (ry:RelV y u) (rv:RelV v r) (h:∀ s',Inv X pins σ H' s'->Q () s') :
   wpAny (model X.prog X.w) A (setItem (.ref a) u r) Q E s:=by
 rcases g with ⟨kvs,k,e,ey,l,eH⟩|⟨kvs,k,b,e,ey,eb,l,eH⟩
 . subst ey eH;obtain ⟨z,hd,vs,rel,dd⟩:=bEa I.hok e;have hz:vs.length<=sizeLine:=by rw [<- rel.length];exact z
   have hl:(jE kvs k v).length<=sizeLine:=by have:=tD kvs k v;omega
   refine wpAny_setItem_pairs (hsz:=hz) (GG ry) dd fun h' dd' hs=>h _ ?_;have he:∃ q,h'.get? a=some q:=let ⟨q,_,_,hq,_⟩:=dd';⟨q,hq⟩;exact Ms I (by rw [e];exact True.intro) hs he (XY hl hd (rel.put k rv) dd')
 . subst ey eH;cases (show u=Value.ref b from ry);obtain ⟨z,hd,xs,rel,dd⟩:=bGa I.hok e;have hz:xs.length<=sizeLine:=by rw [<- Paired.length rel];exact z
   have hl:(jE kvs k v).length<=sizeLine:=by have:=tD kvs k v;omega
   refine wpAny_setItem_heap (hsz:=hz) (tupleKind_room_in1 hu) (EO I.hok eb) dd fun h' dd' hs=>h _ ?_;obtain ⟨q,es,ep,hq,h2,h3,h4,_,h5⟩:=dd';refine Ms I (by rw [e];exact True.intro) hs ⟨q,hq⟩ ⟨hl,hd,_,(rel.put k eb rv).keeps fun c ys ec=>?_,q,es,ep,hq,h2,h3,h4,h5⟩;rw [aR (lA ec e (fun z=>nomatch z))];exact ec
end
section
variable {X:Cx} {pins:List (Addr × Obj)} {σ:St} {H:Hp} {s:Shared} {a:Addr} {kvs:List (Key × V)} {k:Key} {u:Value} {A:Around} {E:Value->Shared->Prop}
theorem eAa {Q:Value->Shared->Prop} (I:Inv X pins σ H s) (e:Rd H a (.dK kvs)) (h:∀ t s',Inv X pins σ H s'->Q (.int kvs.length t) s'):wpAny (model X.prog X.w) A (call (.builtin "len") [.ref a]) Q E s:=by
 obtain ⟨z,hd,vs,rel,dd⟩:=GI I.hok e;refine call_len_dict hd dd (by rw [<- rel.length];rw [sizeLine_eq] at z;omega) ?_;rw [<- rel.length];exact h _ _ (I.tok _)
end
def dMa (i:Expr):Prop:=∀ ov iv,subscripted i false ov iv=operate [ov,iv] (getItem ov iv)
theorem cYa {prog:Program} {w:World} {A:Around} {E:Value->Shared->Prop} {s:Shared} {env:Env} {value slice:Expr} {pos:Pos} {T id:String} {Q:Value->Shared->Prop}
   (hl:typeLookup (.type T) "__getitem__"=pure (some (.builtin id))) (hs:dMa slice)
   (h:wpAny (model prog w) A (eval value env) (fun o s₁=>wpAny (model prog w) A (eval slice env) (fun i s₂=>s₂.TypeIs o T/\wpAny (model prog w) A (getItem o i) Q E s₂) E s₁) E s) :
   wpAny (model prog w) A (eval (.Subscript value slice pos) env) Q E s:=by
 refine Subscript_ (bg h (fun o s₁ h₁=>bg h₁ (fun i s₂ h₂=>?_) fun _ _ x=>x) fun _ _ x=>x);obtain ⟨hT,h₂⟩:=h₂;unfold subscriptTail;refine aa ?_;rw [getitemInPython_of_ne hT.not_modules];refine aa (jI hT hl ?_);have fin:wpAny (model prog w) A (subscripted slice false o i) (fun r s₃=>wpAny (model prog w) A (letTemporaryGo value o r >>= fun _=>pure r) Q E s₃) E s₂:=by
   rw [hs o i];exact wpAny_operating (bg h₂ (fun r s₃ h₃=>aa (wpAny_letTemporaryGo (ao h₃))) fun _ _ x=>x)
 first
   | exact ao (aa fin)
   | exact aa (ao (aa fin))
   | exact aa fin
theorem RM {X:Cx} {pins:List (Addr × Obj)} {σ:St} {H:Hp} {s:Shared} {a:Addr} {y:V} {o:Option V} (I:Inv X pins σ H s) (g:DGet H a y o):s.TypeIs (.ref a) "dict":=by
 rcases g with ⟨kvs,k,e,_,_⟩|⟨kvs,k,b,e,_,_,_⟩
 . obtain ⟨_,_,vs,_,dd⟩:=GI I.hok e;exact dd.typeIs
 . obtain ⟨_,_,xs,_,dd⟩:=KY I.hok e;exact dd.typeIs
def U9 (td ty:TE):TE:=fun σ H Q=>td σ H fun x H1=>ty σ H1 fun y H2=>∃ a v,x=.ref a/\DGet H2 a y (some v)/\Q v H2
def ZT (ty td:TE):TE:=fun σ H Q=>ty σ H fun y H1=>td σ H1 fun x H2=>∃ a o,x=.ref a/\DGet H2 a y o/\Q (.bl o.isSome) H2
def Lz (ty td:TE):TE:=fun σ H Q=>ty σ H fun y H1=>td σ H1 fun x H2=>∃ a o,x=.ref a/\DGet H2 a y o/\Q (.bl (!o.isSome)) H2
def UT (td ty tv:TE):TS:=fun D σ H=>tv σ H fun v H1=>td σ H1 fun x H2=>ty σ H2 fun y H3=>∃ a H4,x=.ref a/\DPut H3 a y v H4/\D.nx σ H4
section
variable {X:Cx} {o i e value:Expr} {pos pos' tpos:Pos} {td ty tv:TE}
theorem yA (hu:X.A.units+1<cLine) (ho:PE X o td) (hi:PE X i ty) (hs:dMa i):PE X (.Subscript o i pos) (U9 td ty):=by
 intro pins s σ H Q I h;refine cYa PySem.F.slot_dict_getitem.lookup hs (dg (ho pins s σ H _ I h) fun u s1 x H1 I1 rx q1=>dg (hi pins s1 σ H1 _ I1 q1) fun iv s2 y H2 I2 ry ⟨a,v,ex,g,q2⟩=>?_);subst ex;obtain rfl:u=Value.ref a:=rx;exact ⟨RM I2 g,V6 hu I2 g ry fun w' s3 I3 rw'=>⟨v,H2,I3,rw',q2⟩⟩
theorem dZa (hu:X.A.units+1<cLine) (hi:PE X i ty) (ho:PE X o td):PC X .In i o (ZT ty td):=by
 intro pins s σ H Q I h;refine dg (hi pins s σ H _ I h) fun iv s1 y H1 I1 ry q1=>dg (ho pins s1 σ H1 _ I1 q1) fun u s2 x H2 I2 rx ⟨a,ov,ex,g,q2⟩=>?_;subst ex;obtain rfl:u=Value.ref a:=rx;exact eUa hu I2 g ry fun s3 I3=>⟨.bl ov.isSome,H2,I3,rfl,q2⟩
theorem MY (hu:X.A.units+1<cLine) (hi:PE X i ty) (ho:PE X o td):PC X .NotIn i o (Lz ty td):=by
 intro pins s σ H Q I h;refine dg (hi pins s σ H _ I h) fun iv s1 y H1 I1 ry q1=>dg (ho pins s1 σ H1 _ I1 q1) fun u s2 x H2 I2 rx ⟨a,ov,ex,g,q2⟩=>?_;subst ex;obtain rfl:u=Value.ref a:=rx;exact cWa hu I2 g ry fun s3 I3=>⟨.bl (!ov.isSome),H2,I3,rfl,q2⟩
theorem LS (hu:X.A.units+1<cLine) (ho:PE X o td) (hi:PE X i ty) (hv:PE X value tv) (hs:swapsWith value (some (.Subscript o i pos')) pos.line X.env=pure false) :
   PS X (.Assign [.Subscript o i pos'] value pos) (UT td ty tv):=by
 intro pins s σ H D I h;refine wpAny_Assign_Subscript (dg (hv pins s σ H _ I h) fun r s1 v H1 I1 rv q1=>dg (ho pins s1 σ H1 _ I1 q1) fun u s2 x H2 I2 rx q2=>dg (hi pins s2 σ H2 _ I2 q2) fun iv s3 y H3 I3 ry ⟨a,H4,ex,g,q3⟩=>?_) hs;subst ex;obtain rfl:u=Value.ref a:=rx;exact V5 hu I3 g ry rv fun s4 I4=>⟨σ,H4,I4,q3⟩
end
theorem X6 {P:Program} {w:World} {H:Hp} (h:Heap) (hb:sysModules<h.objs.size):ObjOk P w H (h.push { cls:=.type "dict",data:=.dict #[] }) h.objs.size (.dK []) :=
 ⟨bi _,beq_eq_false_iff_ne.mpr (Ne.symm (aE hb)),[],.nil,Heap.DictOf.new h⟩
theorem Zk {P:Program} {w:World} {H:Hp} (h:Heap) (hb:sysModules<h.objs.size):ObjOk P w H (h.push { cls:=.type "dict",data:=.dict #[] }) h.objs.size (.dT []) :=
 ⟨bi _,beq_eq_false_iff_ne.mpr (Ne.symm (aE hb)),[],.nil,_,#[],0,aJ _ rfl,⟨rfl,rfl,rfl⟩,rfl,rfl,List.nodup_nil⟩
def Xu:TE:=fun _ H Q=>∀ p,H p=none->Q (.ref p) (upd H p (.dK []))
def tDNewT:TE:=fun _ H Q=>∀ p,H p=none->Q (.ref p) (upd H p (.dT []))
section
variable {X:Cx} {pos:Pos}
theorem ZM:PE X (.Dict [] [] pos) tDNewT:=fun pins s σ H Q I h =>
 wpAny_Dict_empty ⟨.ref s.heap.objs.size,_,I.laid (a:=s.heap.objs.size) (o:=.dT []) (t':=s.toks) (fun _ _ q=>ap _ q) (aA _) (Zk s.heap I.big),rfl,h _ (I.hok.fresh (aA _))⟩
end
def B5:List (TE × TE)->St->Hp->(List (V × V)->Hp->Prop)->Prop
 | [],_,H,Q=>Q [] H
 | (tk,tv)::r,σ,H,Q=>tk σ H fun x H1=>tv σ H1 fun y H2=>B5 r σ H2 fun ps H3=>Q ((x,y)::ps) H3
abbrev VV:List (V × V)->List (Value × Value)->Prop:=Paired fun p q=>RelV p.1 q.1/\RelV p.2 q.2
def PPs (X:Cx) (pos:Pos) (keys:List (Option Expr)) (values:List Expr) (trs:List (TE × TE)):Prop :=
 ∀ (pins:List (Addr × Obj)) (s:Shared) (σ:St) (H:Hp) (Q:List (V × V)->Hp->Prop),Inv X pins σ H s->B5 trs σ H Q ->
   wpAny (model X.prog X.w) X.A (evalPairs (pairTrees keys values X.env pos)) (fun vs s'=>∃ ps H',Inv X pins σ H' s'/\VV ps vs/\Q ps H') X.xe s
theorem bUa {X:Cx} {pos:Pos}:PPs X pos [] [] []:=fun pins s σ H Q I h=>pairTrees_nil_walk ⟨[],H,I,.nil,h⟩
theorem a5a {X:Cx} {pos:Pos} {k v:Expr} {ks:List (Option Expr)} {vs:List Expr} {tk tv:TE} {trs:List (TE × TE)} (hk:PE X k tk) (hv:PE X v tv) (hr:PPs X pos ks vs trs) :
   PPs X pos (some k::ks) (v::vs) ((tk,tv)::trs):=fun pins s σ H Q I h =>
 pairTrees_cons_walk (dg (hk pins s σ H _ I h) fun u s1 x H1 I1 rx q1=>dg (hv pins s1 σ H1 _ I1 q1) fun w2 s2 y H2 I2 ry q2 =>
   thn (hr pins s2 σ H2 _ I2 q2) fun ws s3 ⟨ps,H3,I3,rel,q3⟩=>⟨(x,y)::ps,H3,I3,.cons ⟨rx,ry⟩ rel,q3⟩)
def BZ (kvs more:List (Key × V)):List (Key × V):=more.foldl (fun acc kv=>jE acc kv.1 kv.2) kvs
theorem KV.merge:∀ {more:List (Key × V)} {rs:List (Key × Value)} {kvs:List (Key × V)} {vs:List (Key × Value)},KV more rs->KV kvs vs->KV (BZ kvs more) (merged vs rs):=by
 intro more rs kvs vs r;unfold KV at r
 induction r generalizing kvs vs with
 | nil=>intro q;exact q
 | @cons p q ps qs h t ih =>
   intro r0;have e:KV (jE kvs p.1 p.2) (stored vs q.1 q.2):=by
     have:=r0.put p.1 h.2;rw [<- h.1];exact this
   exact ih e
theorem Ei:∀ (more kvs:List (Key × V)),(BZ kvs more).length<=kvs.length+more.length
 | [],kvs=>by show kvs.length<=kvs.length+0;omega
 | p::r,kvs=>by
   have h1:=Ei r (jE kvs p.1 p.2);have h2:=tD kvs p.1 p.2;show (BZ (jE kvs p.1 p.2) r).length<=_;rw [aQ];omega
theorem J4 {P:Program} {w:World}:∀ {kvs:List (Key × V)} {ws:List (Value × Value)},VV (kvs.map fun kv=>(kV kv.1,kv.2)) ws->∃ rs,Carries (jb P w) ws rs/\KV kvs rs
 | [],_,r=>by rw [gc] at r;cases r;exact ⟨[],True.intro,.nil⟩
 | p::kvs,_,r=>by
   rw [aW] at r;cases r with
   | @cons a b as bs h t =>
     obtain ⟨rs,c,q⟩:=J4 (P:=P) (w:=w) t;obtain ⟨b1,b2⟩:=b;exact ⟨(p.1,b2)::rs,⟨GG h.1,rfl,c⟩,.cons ⟨rfl,h.2⟩ q⟩
def Uw (trs:List (TE × TE)):TE:=fun σ H Q=>∀ p,H p=none->B5 trs σ (upd H p (.dK [])) fun ps H2=>H2 p=some (.dK [])/\∃ kvs:List (Key × V),ps=kvs.map (fun kv=>(kV kv.1,kv.2))/\kvs.length<=15/\Q (.ref p) (upd H2 p (.dK (BZ [] kvs)))
theorem cqa {X:Cx} {pos:Pos} {keys:List (Option Expr)} {values:List Expr} {trs:List (TE × TE)} (h:PPs X pos keys values trs) (hall:keys.all (·.isSome)=true) (hl:keys.length=values.length) (h0:keys≠[])
   (h15:keys.length<=15):PE X (.Dict keys values pos) (Uw trs):=by
 intro pins s σ H Q I q;have hn:=I.hok.fresh (aA s.heap.objs.size);have I1:=I.laid (a:=s.heap.objs.size) (o:=.dK []) (h':=s.heap.push { cls:=.type "dict",data:=.dict #[] }) (t':=s.toks) (fun _ _ q=>ap _ q) (aA _) (X6 s.heap I.big);refine wpAny_Dict_walk (knd:=jb X.prog X.w) hall hl h0 h15 (thn (h pins _ σ _ _ I1 (q _ hn)) fun ws s2 ⟨ps,H2,I2,rel,e,kvs,ep,lk,q2⟩=>?_);subst ep;obtain ⟨rs,c,rk⟩:=J4 (P:=X.prog) (w:=X.w) rel;obtain ⟨z,hd,vs0,r0,dd⟩:=bEa I2.hok e;cases r0;refine ⟨rs,c,dd,fun h' dd' hs=>⟨.ref s.heap.objs.size,_,?_,rfl,q2⟩⟩;have hz:(BZ [] kvs).length<=sizeLine:=by
   have h1:=Ei kvs [];rw [f7] at h1;rw [sizeLine_eq];omega
 have he:∃ q,h'.get? s.heap.objs.size=some q:=let ⟨q,_,_,hq,_⟩:=dd';⟨q,hq⟩;exact Ms I2 (by rw [e];exact True.intro) hs he (XY hz hd (rk.merge .nil) dd')
end L2
namespace Att
open PySem PySem.W PySem.Calls PyProof.Rows
theorem Ka {P:Params} {h:Heap}:∀ (ns:List Int) (vs:List Value),WellAll P h vs (ns.map WData.int)->IntsAre vs ns:=by
 intro ns
 induction ns with
 | nil =>
   intro vs w;rw [gc] at w;cases w;exact .nil
 | cons n ns ih =>
   intro vs w;rw [aW] at w;cases w with
   | cons a b =>
     cases a;exact .cons _ _ (ih _ b)
theorem V1 {l:OpenLaw} {n:Nat} (hn:l.most=some n) {P:Params} {h:Heap} {args:List WData} {vals:List Value}
   (hpre:l.row.toRowW.claim.pre args=true) (hwl:WellAll P h vals args) :
   ∃ a vs ns,vals=[Value.ref a]/\args=[WData.list (ns.map WData.int)]/\h.get? a=some { cls:=.type "list",data:=.seq vs.toArray }/\IntsAre vs ns/\ns.length<=n:=by
 have hsh:WShape.hasAll [] args [.list .int]=true:=(pre_splitW hpre).1;have hc:l.pre.holds [] { args:=args }=true:=(pre_splitW hpre).2;obtain ⟨d,r,rfl,h1,h2⟩:=hasAllW_cons hsh;obtain rfl:=hasAllW_nil h2;obtain ⟨xs,rfl,h3⟩:=hasW_list h1;obtain ⟨ns,rfl⟩:=items_int h3;have hlen:ns.length<=n:=by
   unfold OpenLaw.pre at hc;have h4:(WTm.not (.lt (.lit (.int (n:Int))) (.len (.arg 0)))).holds [] { args:=[.list (ns.map .int)] }=true:=by
     have h4:=(holds_andW hc).1;rw [hn] at h4;exact h4
   have h5:=condW_of h4 (w_not (w_lt w_lit (w_len_list (w_arg rfl))));rw [ak] at h5;refine Nat.le_of_not_lt fun q=>?_;have q':(n:Int)<((ns.length:Nat):Int):=by omega
   first
     | (rw [bH q'] at h5;exact absurd h5 (by decide))
     | (simp at h5;omega)
 cases hwl with
 | cons w1 w2 =>
   cases w2;cases w1 with
   | list ho hall=>exact ⟨_,_,ns,rfl,rfl,ho,Ka ns _ hall,hlen⟩
theorem WF (l:OpenLaw) (args:List WData):l.row.toRowW.claim.post args (.bool true) args=true :=
 postW_of (r:=l.row.toRowW) (X:=(true == true))
   (show WShape.has [] (.bool true) .bool=true by first|rfl|decide|simp [WShape.has,WShape.arms,WShape.armsAll])
   (show (WTm.eq .res (.lit (.bool true))).value [] { args:=args,res:=some (.bool true),after:=args }=some (.bool (true == true)) from w_eq_bool (w_res rfl) w_lit) rfl
theorem attach_call {l:OpenLaw} {n:Nat} {q:Program} {loose:List Str} {XP:(Str->Option Value)->Heap->Prop} {YP:World->Heap->Prop} {d:DefRec}
   (hn:l.most=some n) (hdf:d.params.defaults=[])
   (call:∀ (w:World) (s₀ s₁:Shared) (mg mb:Str->Option Value) (fa:Addr) (o:Obj) (pm cd doc:Value) (a:Addr) (vs:List Value) (ns:List Int),
     Ground q loose [] XP w s₀ mg mb s₁.heap->YP w s₁.heap ->
     s₁.heap.get? fa=some o->o.data=.func (docDef d.name d.params d.body d.scope pm cd doc)->s₁.heap.CodeRec cd d.name->mg d.name=some (.ref fa) ->
     s₁.heap.get? a=some { cls:=.type "list",data:=.seq vs.toArray }->IntsAre vs ns->ns.length<=n->s₁.gens=#[] ->
     codeAny (model l.prog w) callerA (.call (.ref fa) ⟨[.ref a],[]⟩) (fun r s'=>r=.ok (.ret (.bool true))/\OldK s₁.heap s'.heap/\s'.os=s₁.os/\AllBare s'.gens) s₁) :
   WalkO q loose XP YP l.row.toRowW d [] (fun f vs=>PySem.call f vs):=by
 intro w s₀ s₁ mg mb G Y fa o pm cd doc dV kV ho hd hcd hD hmg hg args vals as hpre hlay hrd hwl hlo;obtain rfl:dV=.none:=Dflts.none hD hdf;obtain rfl:kV=.none:=Dflts.noKw hD;obtain ⟨a,vs,ns,rfl,rfl,hobj,hints,hlen⟩:=V1 hn hpre hwl;refine enter_call (g6 (call w s₀ s₁ mg mb fa o pm cd doc a vs ns G Y ho (fd_plain hd) hcd hmg hobj hints hlen hg) fun r s' hq=>?_);obtain ⟨rfl,h2,h3,h4⟩:=hq;exact ⟨.inl ⟨.bool true,.bool true,[],rfl,fun _=>rfl,.bool true,WF l _,fun _=>⟨List.Pairwise.nil,fun _ hm=>(nomatch hm)⟩⟩,h2,h3,h4⟩
end Att
namespace L2
open PySem PySem.Spec PyProof.Rows
theorem MJ:∀ {vs:List Value} {ns:List Int},IntsAre vs ns->Vals (ns.map V.int) vs
 | _,_,.nil=>.nil
 | _,_,.cons n t h=>.cons ⟨t,rfl⟩ (MJ h)
def ZQ (H:Hp):Prop:=∀ b,H b=none\/∃ o xs,H b=some (.frz o (.lst xs))
theorem Yo {P:Program} {w:World} {K:PySem.W.Frag} {mg mb:Str->Option Value} {CX:CXT} {k:Nat} {fa a:Addr} {fd:FuncData} {x:Str} {sp:Sp} {s₁:Shared} {vs:List Value} {ns:List Int}
   (KX:K.In s₁.heap) (hns:s₁.heap.Ns mainGlobals mg) (hb:s₁.heap.Ns builtinsNs mb) (hbb:∀ x:Str,x≠"__name__"->mb x=bootBuiltins x) (hlim:s₁.heap.NoLimit) (hg:s₁.gens=#[])
   (ha:s₁.heap.get? a=some { cls:=.type "list",data:=.seq vs.toArray }) (hi:IntsAre vs ns) (hl:ns.length<=sizeLine) (hr:Room k callerA)
   (F:∀ base:Heap,K.In base->base.Ns mainGlobals mg->FnOk P w K mg base CX k fa fd [x] sp) (hbind:∀ (s:Shared) (u:Value),BindsTo s fd ⟨[u],[]⟩ [(x,u)])
   (hsp:∀ H:Hp,ZQ H->SqL K H a (ns.map V.int)->sp [.ref a] H (fun v _=>v=.bl true) fun _ _ _=>False)
   (hCX:∀ H e s',CX [] H s₁ (fun _ _ _=>False) e s'->False) :
   codeAny (model P w) callerA (.call (.ref fa) ⟨[.ref a],[]⟩) (fun r s'=>r=.ok (.ret (.bool true))/\OldK s₁.heap s'.heap/\s'.os=s₁.os/\AllBare s'.gens) s₁:=by
 have rv:=MJ hi;have lenV:=hi.length;have core:∀ H:Hp,ZQ H->SqL K H a (ns.map V.int)->HOk P w H s₁.heap->(∀ b,H b≠none->b=a)->(H a≠none->K.lookup a=none) ->
     codeAny (model P w) callerA (.call (.ref fa) ⟨[.ref a],[]⟩) (fun r s'=>r=.ok (.ret (.bool true))/\OldK s₁.heap s'.heap/\s'.os=s₁.os/\AllBare s'.gens) s₁:=by
   intro H hO hS hok hA hK;have base_of:∀ {b:Addr} {o:Obj},s₁.heap.get? b=some o->H b=none->(Du s₁.heap H).get? b=some o:=fun e n=>Yr e n;have noA:∀ {b:Addr} {o:Obj} {es:Array DictEntry} {ep:Nat},s₁.heap.get? b=some o->o.data=.dict es ep->H b=none:=fun {b o es ep} e d=>by
     cases q:H b with
     | none=>rfl
     | some u =>
       have e':b=a:=hA b (by rw [q];simp);subst e';rw [ha] at e;cases e;have d':Data.seq vs.toArray _=Data.dict es ep:=d;cases d'
   have nsK:∀ {b:Addr} {m:Str->Option Value},s₁.heap.Ns b m->(Du s₁.heap H).Ns b m:=fun {b m} ⟨o,es,ep,e,d,r⟩=>⟨o,es,ep,base_of e (noA e d),d,r⟩;have hKb:K.In (Du s₁.heap H):=fun b o e=>base_of (KX b o e) (by
     cases q:H b with
     | none=>rfl
     | some u =>
       have e':b=a:=hA b (by rw [q];simp);subst e';rw [hK (by rw [q];simp)] at e;cases e)
   have hM:Mod K mg (Du s₁.heap H):=⟨hKb,nsK hns,⟨mb,nsK hb,hbb⟩,let ⟨mc,h1,h2⟩:=hlim;⟨mc,nsK h1,h2⟩⟩;have e0:Env0 P w K mg (Du s₁.heap H) callerA [] s₁ H:=⟨rfl,hM,fun b o e=>bZa e,Nat.le_of_eq (Wt _ _),trivial,fun b hb=>absurd (show b∈([]:List Addr) from hb) (by simp),hok,.of_eq hg⟩;refine g6 ((F _ hKb (nsK hns)).run callerA [] s₁ H ⟨[.ref a],[]⟩ [.ref a] [.ref a] _ _ hr e0 (hbind s₁ (.ref a)) (.cons rfl .nil) (hsp H hO hS)) fun r s' h=>?_;cases r with
   | error e=>exact (hCX H e s' h).elim
   | ok fl =>
     cases fl with
     | next=>exact False.elim h
     | brk=>exact False.elim h
     | cont=>exact False.elim h
     | ret u =>
       obtain ⟨v,H',os,bare,un,hok',r',q⟩:=h;have q':v=.bl true:=q;subst q';obtain rfl:u=Value.bool true:=r';refine ⟨rfl,OldK.of_keep fun b o e=>?_,os,bare⟩;cases q:H b with
       | none=>exact un.keep b o e q (by intro z;exact absurd (show b∈([]:List Addr) from z) (by simp)) (by simp)
       | some u =>
         rcases hO b with z|⟨ob,xs,z⟩
         . rw [q] at z;cases z
         . have z2:=un.frzs b ob _ z;obtain ⟨e1,_⟩:=hok b _ z;obtain ⟨e2,_⟩:=hok' b _ z2;rw [e] at e1;cases e1;exact e2
 cases hk:K.lookup a with
 | some o =>
   have e:=KX a o hk;rw [ha] at e;cases e;refine core (fun _=>none) (fun _=>.inl rfl) (.inr ⟨_,vs.toArray,_,hk,rfl,rfl,rfl,by rw [aG,lenV];exact hl,by simpa using rv⟩) (fun b u z=>by have z':(none:Option HO)=some u:=z;cases z') (fun b z=>absurd rfl z) fun z=>absurd rfl z
 | none =>
   refine core (fun b=>if b=a then some (.frz { cls:=.type "list",data:=.seq vs.toArray } (.lst (ns.map V.int))) else none) (fun b=>?_) (.inl (.inr ⟨{ cls:=.type "list",data:=.seq vs.toArray },am rfl⟩)) (fun b u z=>?_) (fun b z=>?_) fun _=>hk
   . by_cases hb:b=a
     . exact .inr ⟨_,_,am hb⟩
     . exact .inl (aj hb)
   . by_cases hb:b=a
     . have z':=(am hb).symm.trans z;cases z';subst hb;exact ⟨ha,by rw [ak];exact hl,vs,_,rv,ha⟩
     . have z':=(aj hb).symm.trans z;cases z'
   . by_cases hb:b=a
     . exact hb
     . exact absurd (aj hb) z
end L2
namespace L2
open PySem PySem.Spec PyProof.Rows
theorem walk_of {l:PySem.W.OpenLaw} {n k:Nat} {q:Program} {loose:List Str} {XP:(Str->Option Value)->Heap->Prop} {YP:World->Heap->Prop} {d:DefRec} {K:Params->PySem.W.Frag} {CX:World->CXT} {sp:World->Sp} {x:Str}
   (hn:l.most=some n) (hn2:n<=sizeLine) (hdf:d.params.defaults=[]) (hr:Room k callerA)
   (hY:∀ (w:World) (h:Heap),YP w h->(K w.params).In h)
   (F:∀ (w:World) (mg:Str->Option Value) (fa:Addr) (h:Heap),(K w.params).In h->h.Ns mainGlobals mg->mg d.name=some (.ref fa) ->
     ∃ fd:FuncData,(∀ (s:Shared) (u:Value),BindsTo s fd ⟨[u],[]⟩ [(x,u)]) /\
       ∀ base:Heap,(K w.params).In base->base.Ns mainGlobals mg->FnOk l.prog w (K w.params) mg base (CX w) k fa fd [x] (sp w))
   (hsp:∀ (w:World) (H:Hp) (a:Addr) (ns:List Int),ns.length<=n->ZQ H->SqL (K w.params) H a (ns.map V.int)->sp w [.ref a] H (fun v _=>v=.bl true) fun _ _ _=>False)
   (hCX:∀ (w:World) (H:Hp) (s:Shared) (e:Value) (s':Shared),CX w [] H s (fun _ _ _=>False) e s'->False) :
   PySem.W.WalkO q loose XP YP l.row.toRowW d [] (fun f vs=>PySem.call f vs):=by
 refine Att.attach_call hn hdf fun w s₀ s₁ mg mb fa o pm cd doc a vs ns G Y ho hd hcd hmg hobj hints hlen hg=>?_;have KX:=hY w _ Y;obtain ⟨fd,hb,hF⟩:=F w mg fa _ KX G.T.g hmg;exact Yo KX G.T.g G.T.b G.T.builtins G.T.nolimit hg hobj hints (bP hlen hn2) hr hF hb (fun H hO hS=>hsp w H a ns hlen hO hS) fun H e s'=>hCX w H s₁ e s'
end L2
namespace L2
open PySem PySem.Spec PyProof.Rows
def Tp (s:Stmt) (j:Nat):Stmt:=match s with
 | .ClassDef _ _ _ body _ _ _ _ _ _ _=>body.getD j (.Pass ⟨0,0,0,0⟩)
 | _=>.Pass ⟨0,0,0,0⟩
def bA (s:Stmt):Arguments:=match s with
 | .FunctionDef _ a _ _ _ _ _ _ _ _=>a
 | _=>{ posonlyargs:=[],args:=[],vararg:=none,kwonlyargs:=[],kw_defaults:=[],kwarg:=none,defaults:=[] }
def bw (s:Stmt):List Stmt:=match s with
 | .FunctionDef _ _ b _ _ _ _ _ _ _=>b
 | _=>[]
def ag (s:Stmt):Scope:=match s with
 | .FunctionDef _ _ _ _ _ _ sc _ _ _=>sc
 | _=>{ kind:=.function,names:=[],isGenerator:=false,isCoroutine:=false }
abbrev CX0:CXT:=fun _ _ _ _ _ _=>False
abbrev E0:XK:=fun _ _ _=>False
structure Fun (K:PySem.W.Frag) (x qual:Str) (st:Stmt) (f:Addr) (fd:FuncData):Prop where
 ex:∃ (oc:Value) (od:Option Addr) (kV doc pm:Value) (an:Option Addr) (cdv ct:Value) (osl:Array (Option Value)),
   fd=PySem.W.fnOf x qual (bA st) (bw st) (ag st) .none kV doc pm an cdv ct/\K.lookup f=some ⟨oc,od,.func fd,osl⟩/\PySem.W.codeIn K cdv qual=true
 kp:PySem.W.keepIn K (.ref f)=true
section
variable {P:Program} {w:World} {K:PySem.W.Frag} {mg:Str->Option Value} {base:Heap}
theorem Fun.binds {x qual:Str} {st:Stmt} {f:Addr} {fd:FuncData} {ps:List Str} (F:Fun K x qual st f fd)
   (h:∀ (kV doc pm:Value) (an:Option Addr) (cdv ct:Value) (us:List Value),us.length=ps.length->bindArgs (PySem.W.fnOf x qual (bA st) (bw st) (ag st) .none kV doc pm an cdv ct) ⟨us,[]⟩=pure (ps.zip us)):Binds K fd ps []:=by
 obtain ⟨oc,od,kV,doc,pm,an,cdv,ct,osl,rfl,lk,hcd⟩:=F.ex;exact .all (h kV doc pm an cdv ct)
theorem cf {x qual:Str} {st:Stmt} {f:Addr} {oc:Value} {od an:Option Addr} {osl:Array (Option Value)} {kV doc pm cdv ct:Value} (l:K.lookup f=some ⟨oc,od,.func (PySem.W.fnOf x qual (bA st) (bw st) (ag st) .none kV doc pm an cdv ct),osl⟩)
   (c:PySem.W.codeIn K cdv qual=true) (k:PySem.W.keepIn K (.ref f)=true):Fun K x qual st f (PySem.W.fnOf x qual (bA st) (bw st) (ag st) .none kV doc pm an cdv ct):=⟨⟨oc,od,kV,doc,pm,an,cdv,ct,osl,rfl,l,c⟩,k⟩
end
theorem Ar {A:Around} {k:Nat} (hr:Room k A):A.units+1<cLine:=Nat.lt_of_le_of_lt (Nat.add_le_add_left (by decide:1<=64) _) hr.units
section
variable {X:Cx}
theorem pv (i:Nat) {x:Str} {pos:Pos} (hN:X.N[i]?=some x:=by rfl) (hv:Vis X.env.scope x:=by first|exact Or.inl rfl|exact Or.inr (Or.inl rfl)|exact Or.inr (Or.inr rfl)) (hd:(x == ("__debug__":Str))=false:=by decide)
   (hcd:(x == ("__classdict__":Str))=false:=by decide):PE X (.Name x pos) (LB i):=PR hN hv hd hcd
end
theorem eOa {A B:Prop} (h:B):if false=true then A else B:=by
 rw [aj aP];exact h
theorem eJa {A B:Prop} (h:A):if true=true then A else B:=by
 rw [am rfl];exact h
def Same (H H':Hp):Prop:=∀ b o,H b=some o->H' b=some o
theorem Same.refl (H:Hp):Same H H:=fun _ _ h=>h
theorem Same.trans {H H1 H2:Hp} (a:Same H H1) (b:Same H1 H2):Same H H2:=fun c o h=>b c o (a c o h)
theorem Same.free {H H':Hp} (e:Same H H') {l:Addr} (h:H' l=Option.none):H l=Option.none:=by
 cases q:H l with
 | none=>rfl
 | some o =>
   rw [e l o q] at h;cases h
theorem Same.seq {K:PySem.W.Frag} {H H':Hp} {a:Addr} {xs:List V} (e:Same H H') (h:SqL K H a xs):SqL K H' a xs:=by
 rcases h with (h|⟨o,h⟩)|h
 . exact .inl (.inl (e _ _ h))
 . exact .inl (.inr ⟨o,e _ _ h⟩)
 . exact .inr h
end L2
namespace L2
open PySem PySem.Spec PyProof.Rows
section
variable {X:Cx}
theorem Wn:vo X (.builtin "len") (fun xs H Q=>∃ a kvs,xs=[V.ref a]/\H a=some (.dK kvs)/\Q (.int kvs.length) H):=by
 intro pins s σ H xs us Q I r h;obtain ⟨a,kvs,rfl,ha,q⟩:=h;obtain ⟨u,rfl,ru⟩:=Ax r;cases ru;exact eAa I (.inl ha) fun t s' I'=>⟨.int kvs.length,H,I',⟨t,rfl⟩,q⟩
end
end L2
namespace L2
open PySem PySem.Spec PyProof.Rows
def Cx.comp (X:Cx) (Nc:List Str) (scope:Scope) (cl:List (Str × Addr)) (C:Addr) (s₂:Shared) (H₁:Hp) (fp:List Addr):Cx where
 prog:=X.prog
 w:=X.w
 K:=X.K
 mg:=X.mg
 base:=X.base
 A:=X.A
 N:=Nc
 s₀:=s₂
 H₀:=H₁
 env:=compEnvC scope cl C X.env
 outer:=X.stack
 stack:=X.stack
 ex:=fp
 fn:=fun _=>false
 calm:=X.calm
 pn:=[]
 xe:=fun _ _=>False
structure CompTxt (X:Cx) (Nc:List Str) (own:Nat) (js:List Nat) (scope:Scope) (cl:List (Str × Addr)):Prop where
 clos:closureFor scope X.env=pure cl
 kind:scope.kind=.function
 nocell:∀ y∈scope.names,y.2≠.cell
 names:∀ y∈scope.names,y.2=.local->scope.names.lookup y.1=some .local
 cells:∀ x c,cl.lookup x=some c->X.env.cells.lookup x=some c
 has:∀ x,((relabel scope X.env).names.lookup x=some .cell\/(relabel scope X.env).names.lookup x=some .free)->∃ c,cl.lookup x=some c
 len:Nc.length=own+js.length
 outer:∀ i x,Nc[own+i]?=some x->∃ j,js[i]?=some j/\X.N[j]?=some x/\X.env.scope.names.lookup x=some .cell/\(relabel scope X.env).names.lookup x=some .cell
def pB (own:Nat) (js:List Nat) (σ:St):St:=List.replicate own none++js.map fun j=>(σ[j]?).getD none
def Vw (own:Nat) (js:List Nat) (wi:TI) (g:TG) (tc:TT) (te:TE):TE:=fun σ H Q=>wi σ H fun J H1=>∀ p,H1 p=none ->
 ∃ W:Nat->Nat->List V->St->Hp->Prop,(∃ m,W 0 m [] (pB own js σ) (upd H1 p (.lst [])))/\∀ i m ys σc Hc,W i m ys σc Hc ->
   (J.stop i Hc/\Q (.ref p) Hc)\/(J.go i Hc/\∀ x H',J.yld i Hc x H'->g x σc H' fun σ2 H2=>tc σ2 H2 fun b H3 =>
     if b=true then te σ2 H3 fun y H4=>H4 p=some (.lst ys)/\ys.length<sizeLine/\∃ m',m'<m/\W (i+1) m' (ys++[y]) σ2 (upd H4 p (.lst (ys++[y])))
     else ∃ m',m'<m/\W (i+1) m' ys σ2 H3)
def PTs (X:Cx) (ifs:List Expr) (t:TT):Prop :=
 ∀ (pins:List (Addr × Obj)) (s:Shared) (σ:St) (H:Hp) (Q:Bool->Hp->Prop),Inv X pins σ H s->t σ H Q ->
   wpAny (model X.prog X.w) X.A (forIn ifs true fun c r=>if r=true then do let ok <- isTrue c X.env (eval c X.env);pure (ForInStep.yield ok) else pure (ForInStep.yield r)) (TP X pins σ Q) X.xe s
def tYes:TT:=fun _ H Q=>Q true H
theorem uK {X:Cx}:PTs X [] tYes:=fun pins s σ H Q I h=>wpAny_tests_nil ⟨H,I,h⟩
theorem TV {X:Cx} {c:Expr} {t:TT} (h:PT X c t):PTs X [c] t:=fun pins s σ H Q I q=>wpAny_tests_one (h pins s σ H Q I q)
section
variable {prog:Program} {w:World} {A:Around} {E:Value->Shared->Prop} {R:Result->Shared->Prop} {s:Shared}
theorem Ig {elt target iter:Expr} {ifs:List Expr} {scope:Scope} {pos:Pos} {it acc:Value} {env:Env} (I:Nat->Shared->Prop)
   (turn:∀ n s,I n s->wpAny (model prog w) A (pyNext it) (fun r s₁=>match r with
     | none=>R (.ok .next) s₁
     | some v=>wpAny (model prog w) A (letOwnedTupleGo target it v) (fun _ s₁'=>wpAny (model prog w) A (assign target env v) (fun _ s₂ =>
         wpAny (model prog w) A (forIn ifs true fun c r=>if r=true then do let ok <- isTrue c env (eval c env);pure (ForInStep.yield ok) else pure (ForInStep.yield r)) (fun ok s₃ =>
           if ok=true then wpAny (model prog w) A (eval elt env) (fun x s₄ =>
             wpAny (model prog w) A (call (.builtin "list.append") [acc,x]) (fun _ s₅=>∃ m,m<n/\I m s₅) (fun _ _=>False) s₄) (fun _ _=>False) s₃
           else ∃ m,m<n/\I m s₃) (fun _ _=>False) s₂) (fun _ _=>False) s₁') (fun _ _=>False) s₁) (fun _ _=>False) s)
   (n:Nat) (h:I n s) :
   codeAny (model prog w) A (.compLoop (.ListComp elt [⟨target,iter,ifs,0⟩] scope pos) 0 it acc env) R s:=by
 refine codeAny_loop rfl I (fun n s hI=>?_) n h;show wpAny _ A ((compTurn (.ListComp elt [⟨target,iter,ifs,0⟩] scope pos) 0 it acc env).onRaise (fun x=>do noteFrame x env;theTreesLotGoes x)) _ _ s;refine wpAny_noted ?_;rw [compTurn_list];refine aa (cY (aa (bg (turn n s hI) (fun r s₁ h₁=>?_) fun _ _ h'=>h'.elim)));cases r with
 | none=>exact ao h₁
 | some v =>
   refine aa (bg h₁ (fun _ s₁' h₁'=>?_) fun _ _ h'=>h'.elim);refine aa (bg h₁' (fun _ s₂ h₂=>aa (bg h₂ (fun ok s₃ h₃=>?_) fun _ _ h'=>h'.elim)) fun _ _ h'=>h'.elim);cases ok with
   | true =>
     rw [am rfl] at h₃;simp only [if_true];exact aa (aa (bg h₃ (fun x s₄ h₄=>aa (bg h₄ (fun _ s₅ h₅=>ao (ao ⟨rfl,h₅⟩)) fun _ _ h'=>h'.elim)) fun _ _ h'=>h'.elim))
   | false =>
     rw [aj aP] at h₃;simp only [bB,if_false]
     first
       | exact ao ⟨rfl,h₃⟩
       | exact aa (ao (ao ⟨rfl,h₃⟩))
end
end L2
namespace L2
open PySem PySem.Spec PyProof.Rows
section
variable {X:Cx} {Nc:List Str} {own:Nat} {js:List Nat} {scope:Scope} {cl:List (Str × Addr)}
theorem Lv {pins:List (Addr × Obj)} {σ:St} {H₁:Hp} {s₂:Shared} {C:Addr} {fp:List Addr} (T:CompTxt X Nc own js scope cl) (I:Inv X pins σ H₁ s₂) (hC:s₂.heap.objs.size<=C)
   (f1:∀ b∈fp,tU X pins H₁ b) (hlt:∀ b∈fp,b<s₂.heap.objs.size):(X.comp Nc scope cl C s₂ H₁ fp).Ok where
 mod:=I.ok.mod
 kind:=by show (relabel scope X.env).kind=_;exact T.kind
 glob:=I.ok.glob
 blt:=I.ok.blt
 above:=hC
 inj:=fun x y c h1 h2=>I.ok.inj x y c (T.cells x c h1) (T.cells y c h2)
 has:=fun x h=>T.has x h
 cab:=fun x c h=>by cases h
 hd:=I.ok.hd
 frames:=I.ok.frames
 stk:=.inl rfl
 exf:=fun b hb=>⟨aE (aM (hlt b hb) hC),fun x c h=>(f1 b hb).2.2.2.2.1 x c (T.cells x c h)⟩
 bs:=I.bs
 bsz:=bP I.ok.bsz I.sz
 noex:=fun b o e hb=>by
   rcases (f1 b hb).2.2.2.1 with z|z
   . exact I.ok.noex b o e z
   . exact absurd (aM (aw (I.ok.bs b o e).1) z) (dl _)
 exfs:=fun b hb hs=>by
   rcases az.mp (I.stkSub b hs) with z|z
   . exact (f1 b hb).2.1 z
   . exact (f1 b hb).2.2.1 z
 funs:=I.stack
 frf:=I.stkFree
theorem Rf {pins:List (Addr × Obj)} {σ:St} {H₁:Hp} {s₂:Shared} {C D:Addr} {fp:List Addr} {h₁:Heap} {t:Nat} {m:Str->Option Value} (T:CompTxt X Nc own js scope cl) (I:Inv X pins σ H₁ s₂) (hC:s₂.heap.objs.size<=C)
   (hD:s₂.heap.objs.size<=D) (hDC:D≠C) (f1:∀ b∈fp,tU X pins H₁ b) (hlt:∀ b∈fp,b<s₂.heap.objs.size) (old:∀ b o,s₂.heap.get? b=some o->h₁.get? b=some o) (hns:h₁.Ns C m)
   (hacc:∃ n,h₁.get? D=some { cls:=.type "list",data:=.seq ([]:List Value).toArray n }) :
   Inv (X.comp Nc scope cl C s₂ H₁ fp) [] (pB own js σ) (upd H₁ D (.lst [])) { s₂ with heap:=h₁,toks:=t }:=by
 obtain ⟨na,hacc⟩:=hacc;have cellK:∀ c v,s₂.heap.IsCell c v->h₁.IsCell c v:=fun c v ⟨o,ho,hd⟩=>⟨o,old c o ho,hd⟩;refine ⟨Lv T I hC f1 hlt,rfl,I.bare,Un.laid old hD (I.hok.fresh hD),⟨m,hns,fun i x v e1 e2 e3=>?_⟩,fun x c e=>?_,?_,fun x c e=>?_,fun p hp=>(by cases hp),I.hok.laid old hD ?_,?_⟩
 . have hN:Nc[i]?=some x:=e1;have hσ:(pB own js σ)[i]?=some (some v):=e2;unfold pB at hσ;by_cases hi:i<own
   . rw [eJ (by simpa using hi),jd] at hσ;simp [hi] at hσ
   . obtain ⟨k,rfl⟩:∃ k,i=own+k:=⟨i - own,by omega⟩;rw [eC (by simp)] at hσ;simp only [fJ,Nat.add_sub_cancel_left,aU] at hσ;obtain ⟨j,hj,hx,hk,hr⟩:=T.outer k x hN;rw [hj] at hσ;replace hσ:some (σ[j]?.getD none)=some (some v):=hσ;have hσj:σ[j]?=some (some v):=by
       cases q:σ[j]? with
       | none=>rw [q] at hσ;simp at hσ
       | some y=>rw [q] at hσ;simpa using hσ
     obtain ⟨m0,hn0,hl0⟩:=I.loc;obtain ⟨u,ru,lk⟩:=hl0 j x v hx hσj (.inr (.inl hk));refine ⟨u,ru,.inr ⟨.inl hr,?_⟩⟩;rcases lk with ⟨z,_⟩|⟨_,c,hc,hcell⟩
     . have z':X.env.scope.names.lookup x=some .local:=z;rw [hk] at z';cases z'
     . obtain ⟨c',hc'⟩:=T.has x (.inl hr);have:=T.cells x c' hc';rw [hc] at this;cases this;exact ⟨c,hc',cellK c _ hcell⟩
 . obtain ⟨v,z⟩:=I.cell x c (T.cells x c e);exact ⟨v,cellK c v z⟩
 . show upd H₁ D (.lst []) C=none;rw [aR (Ne.symm hDC)];exact I.hok.fresh hC
 . have e':=T.cells x c e;obtain ⟨v,o,ho,_⟩:=I.cell x c e';rw [aR (aE (aM (aw ho) hD))];exact I.freeC x c e'
 . exact ⟨bi _,[],na,.nil,hacc⟩
 . show (pB own js σ).length=Nc.length;rw [T.len];simp [pB]
theorem ND {pins:List (Addr × Obj)} {σ σc:St} {H₁ H':Hp} {s₂ s':Shared} {C:Addr} {fp:List Addr} {h':Heap} (I:Inv X pins σ H₁ s₂) (hC:s₂.heap.objs.size<=C)
   (f1:∀ b∈fp,tU X pins H₁ b) (I':Inv (X.comp Nc scope cl C s₂ H₁ fp) [] σc H' s') (hs:Heap.SameBut C s'.heap h'):Inv X pins σ H' { s' with heap:=h' }:=by
 have u:Un (frs X.stack) fp H₁ H' s₂.heap s'.heap:=I'.base;have ne:∀ b o,s₂.heap.get? b=some o->b≠C:=fun b o e=>aE (aM (aw e) hC);have k:∀ b o,b≠C->s'.heap.get? b=some o->h'.get? b=some o:=fun b o n e=>hs.extBut b o n e;have u':Un (frs X.stack) fp H₁ H' s₂.heap h':=⟨fun b o e n hb hx=>k b o (ne b o e) (u.keep b o e n hb hx),fun b o e n hb hx=>let ⟨sl,q⟩:=u.slot b o e n hb hx;⟨sl,k b _ (ne b o e) q⟩,
   u.free,fun b o e hx=>let ⟨o',q⟩:=u.there b o e hx;⟨o',k b o' (ne b o e) q⟩,u.tups,u.frzs,u.tbls⟩
 have hfree:H' C=none:=I'.free;have hok':HOk X.prog X.w H' h':=fun a o e=>(I'.hok a o e).stay (fun b v hb q=>k b v (fun z=>by
   rcases hb with y|y
   . rw [y] at z;rw [z,hfree] at e;cases e
   . rw [z,hfree] at y;cases y) q) (fun _ q=>q) fun _ _ q=>q
 exact I.call' (s':={ s' with heap:=h' }) (ch:=fp) I'.os u' hok' I'.bare fun b hb=>⟨(f1 b hb).2.2.2.1,(f1 b hb).2.1,(f1 b hb).2.2.2.2.1,(f1 b hb).2.2.2.2.2⟩
theorem wf {elt target iter:Expr} {ifs:List Expr} {pos:Pos} {wi:TI} {g:TG} {tc:TT} {te:TE} (hc:X.calm=true) (T:CompTxt X Nc own js scope cl)
   (hi:PI X target iter wi) (hg:∀ C s₂ H₁ fp,PG (X.comp Nc scope cl C s₂ H₁ fp) target g) (ht:∀ C s₂ H₁ fp,PTs (X.comp Nc scope cl C s₂ H₁ fp) ifs tc)
   (he:∀ C s₂ H₁ fp,PE (X.comp Nc scope cl C s₂ H₁ fp) elt te) (hs:∀ x,foldedSetIterable iter X.env x=pure x:=by intro _;rfl) :
   PE X (.ListComp elt [⟨target,iter,ifs,0⟩] scope pos) (Vw own js wi g tc te):=by
 intro pins s σ H Q I h;rw [eval_ListComp];refine wpAny_comprehension_free (use:=none) rfl hs T.clos T.kind T.names (thn (hi pins s σ H _ I h) fun v s1 h1=>thn h1 fun itv s2 h2=>?_);obtain ⟨it,fp,tn,J,H1,rfl,I1,Tn,st,f1,R⟩:=h2;have hfp:∀ b∈fp,b<s2.heap.objs.size:=fun b hb=>let ⟨o,e,_⟩:=Tn.obj _ _ st b hb;aw e;refine bX (wpAny_newFunctionEnv T.nocell (by intro y hy;simp at hy) (fun h₁ hns₁ hsb₁=>?_) T.kind);dsimp only at hns₁ hsb₁ ⊢;generalize hH2:s2.heap.push { cls:=.type "list",dict:=none,data:=.seq ([]:List Value).toArray }=H2 at hns₁ hsb₁ ⊢;have hC:H2.objs.size=s2.heap.objs.size+1:=by rw [<- hH2,cm]
 have hDC:s2.heap.objs.size≠H2.objs.size:=by rw [hC];exact aE (jm _)
 have hCle:s2.heap.objs.size<=H2.objs.size:=by rw [hC];exact dE _
 have below:∀ b,b<s2.heap.objs.size->b≠H2.objs.size:=fun b hb=>by rw [hC];exact aE (lQ hb)
 have old:∀ b o,s2.heap.get? b=some o->h₁.get? b=some o:=fun b o e=>hsb₁.extBut b o (below b (aw e)) (ap _ (hH2 ▸ ap _ e));have hacc:∃ n,h₁.get? s2.heap.objs.size=some { cls:=.type "list",data:=.seq ([]:List Value).toArray n }:=⟨_,hsb₁.extBut _ _ hDC (ap _ (hH2 ▸ aJ _ rfl))⟩;have st₁:tn 0 h₁:=Tn.keep _ _ _ st fun b _ o e=>old b o e;obtain ⟨W,⟨m0,w0⟩,turn⟩:=R s2.heap.objs.size I1.fresh;have Ic:=Rf (t:=s2.toks+([]:List (Str × Value)).length) T I1 hCle (aA _) hDC f1 hfp old hns₁ hacc;generalize hXc:X.comp Nc scope cl H2.objs.size s2 H1 fp=Xc at Ic;have stat:∀ {H':Hp},(∀ b∈fp,H' b=none)->∀ b∈fp,tU Xc [] H' b:=fun {H'} hn b hb=>by
   subst hXc;exact ⟨hn b hb,below b (hfp b hb),(Lv T I1 hCle f1 hfp).exfs b hb,.inl hb,fun x c e=>(f1 b hb).2.2.2.2.1 x c (T.cells x c e),fun p hp=>by cases hp⟩
 have fr0:∀ b∈fp,upd H1 s2.heap.objs.size (.lst []) b=none:=fun b hb=>by
   rw [aR (aE (hfp b hb))];exact (f1 b hb).1
 have calmc:Xc.calm=true:=by subst hXc;exact hc
 have loop:∀ s₃:Shared,s₃={ s2 with heap:=h₁,toks:=s2.toks+([]:List (Str × Value)).length } ->
     codeAny (model X.prog X.w) X.A (.compLoop (.ListComp elt [⟨target,iter,ifs,0⟩] scope pos) 0 (.ref it) (.ref s2.heap.objs.size) (compEnvC scope cl H2.objs.size X.env))
       (compPost (model X.prog X.w) X.A X.xe none (EP X pins σ Q) (.ref s2.heap.objs.size) H2.objs.size) s₃:=by
   rintro s₃ rfl;refine Ig (fun n s'=>∃ i ys σ' H',Inv Xc [] σ' H' s'/\tn i s'.heap/\(∀ b∈fp,H' b=none)/\W i n ys σ' H') ?_ m0 ⟨0,[],_,_,Ic,st₁,fr0,w0⟩;rintro n s3 ⟨i,ys,σ3,H3,I3,st3,fr3,w3⟩;rcases turn i n ys σ3 H3 w3 with ⟨stop,q⟩|⟨go,step⟩
   . subst hXc;refine thn (Tn.done (X.comp Nc scope cl H2.objs.size s2 H1 fp) rfl rfl rfl hc i [] s3 σ3 H3 _ I3 (stat fr3) st3 stop) fun r s4 ⟨hr,I4⟩=>?_;subst hr;obtain ⟨m4,hn4,_⟩:=id I4.loc;exact ⟨m4,hn4,fun h' hs'=>⟨.ref s2.heap.objs.size,H3,ND I1 hCle f1 I4 hs',rfl,q⟩⟩
   . subst hXc;refine thn (Tn.item (X.comp Nc scope cl H2.objs.size s2 H1 fp) rfl rfl rfl hc i [] s3 σ3 H3 _ I3 (stat fr3) st3 go) fun r s4 ⟨u,hr,h4⟩=>?_;subst hr;refine thn h4 fun _ s5 ⟨x,H5,I5,r5,y5,st5,fr5⟩=>?_;have I5':=I5.pinned (stat fr5) (Tn.obj _ _ st5);have back:∀ {σ7:St} {H7:Hp} {s7:Shared},Inv (X.comp Nc scope cl H2.objs.size s2 H1 fp) ([]++BW fp s5.heap) σ7 H7 s7->Inv (X.comp Nc scope cl H2.objs.size s2 H1 fp) [] σ7 H7 s7/\tn (i+1) s7.heap/\∀ b∈fp,H7 b=none:=fun {σ7 H7 s7} I7=>by
       refine ⟨I7.unpinned,Tn.keep _ _ _ st5 fun b hb o e=>(I7.pin (b,o) (aV _ (aV _ (rR hb e)))).1,fun b hb=>?_⟩;obtain ⟨o,e,d⟩:=Tn.obj _ _ st5 b hb;exact (I7.pin (b,o) (aV _ (aV _ (rR hb e)))).2.1
     refine thn (hg _ _ _ _ _ s5 σ3 H5 x u _ I5' r5 (step x H5 y5)) fun _ s6 ⟨σ6,H6,I6,q6⟩=>?_;refine LV (ht _ _ _ _ _ s6 σ6 H6 _ I6 q6) fun ok s7 H7 I7 q7=>?_;cases ok with
     | false =>
       rw [aj aP] at q7 ⊢;obtain ⟨m',hm,w7⟩:=q7;obtain ⟨J1,J2,J3⟩:=back I7;exact ⟨m',hm,i+1,ys,σ6,H7,J1,J2,J3,w7⟩
     | true =>
       rw [am rfl] at q7 ⊢;refine dg (he _ _ _ _ _ s7 σ6 H7 _ I7 q7) fun y s8 yv H8 I8 r8 ⟨hp8,hl8,m',hm,w8⟩=>?_;refine thn (eI _ s8 σ6 H8 (.ref s2.heap.objs.size) [yv] _ [y] (fun v' H'=>W (i+1) m' (ys++[yv]) σ6 H') I8 rfl (.cons r8 .nil) ⟨_,ys,yv,rfl,rfl,hp8,hl8,w8⟩) fun v9 s9 ⟨_,H9,I9,_,w9⟩=>?_;obtain ⟨J1,J2,J3⟩:=back I9;exact ⟨m',hm,i+1,ys++[yv],σ6,H9,J1,J2,J3,w9⟩
 exact codeAny_compStart_list (loop _ rfl) (Tn.self _ 0 _ _ _ st₁ (loop _ rfl))
end
end L2
namespace L2
open PySem PySem.Spec PyProof.Rows
section
variable {X:Cx}
def rInsert:V->List V->Hp->VK->Prop:=fun x vs H Q=>∃ (l:Addr) (xs:List V) (i:Int) (y:V),x=.ref l/\vs=[.int i,y]/\H l=some (.lst xs)/\0<=i/\i<=xs.length/\xs.length<sizeLine/\Q .non (upd H l (.lst (xs.take i.toNat++y::xs.drop i.toNat)))
theorem XR:MtM X "list.insert" rInsert:=by
 intro pins s σ H x vs v us Q I rx rv h;obtain ⟨l,xs,i,y,rfl,rfl,hH,h0,hk,hz,q⟩:=h;cases rx;obtain ⟨u1,u2,rfl,⟨t,rfl⟩,ru⟩:=rv.two;obtain ⟨z,its,n,r,hl,e⟩:=I.lstM hH;have hn:=zE;have hf:Builtin.List.listFitsIndex i=true:=by
   unfold Builtin.List.listFitsIndex;rw [bq];exact ⟨bH (by omega),bH (by omega)⟩
 have hf':¬ (!Builtin.List.listFitsIndex i)=true:=by rw [hf];decide
 have hzz:its.toArray.size<=sizeLine:=by rw [aG,<- hl];exact z
 refine call_meets mw ⟨_,e,rfl⟩ PySem.F.entry_list_insert (PySem.F.args_list_insert_3 _ _ _) (PySem.AutoSeq1.list_insert_list_int_val_1 l its.toArray n i t u2 hf' hzz) ⟨e,?_⟩;refine ⟨.non,_,I.lset (its':=its.take i.toNat++u2::its.drop i.toNat) hH e ?_ ((r.take i.toNat).append (.cons ru (r.drop i.toNat))) ?_,rfl,q⟩
 . show (its.toArray.extract 0 (if i<0 then (i+(its.toArray.size:Int)).toNat else min i.toNat its.toArray.size)).push u2++its.toArray.extract (if i<0 then (i+(its.toArray.size:Int)).toNat else min i.toNat its.toArray.size)=_;have e0:(if i<0 then (i+(its.toArray.size:Int)).toNat else min i.toNat its.toArray.size)=i.toNat:=by
     rw [aj (by omega),aG];omega
   rw [e0];exact PySem.W.kl_ins_eq its i.toNat u2
 . rw [au,aQ,bo,cV];omega
def Ts (K:PySem.W.Frag):List V->Hp->VK->Prop:=fun xs H Q=>∃ x c t b,xs=[x,c]/\TyOf K H x t/\(∀ cv,RelV c cv->PySem.W.kitOne K t cv=some b)/\Q (.bl b) H
theorem Ie:vo X (.builtin "isinstance") (Ts X.K):=by
 intro pins s σ H xs us Q I r h;obtain ⟨x,c,t,b,rfl,ty,hk,q⟩:=h;obtain ⟨u,cv,rfl,ru,rc⟩:=VB r;exact Xw I ru ty (hk cv rc) fun tk=>⟨.bl b,H,I.tok tk,rfl,q⟩
theorem JK (hc:X.calm=true):vo X (.builtin "all") (fun xs H Q=>∃ (p:Addr) (bs:List Bool),xs=[.ref p]/\SqL X.K H p (bs.map V.bl)/\Q (.bl (bs.all id)) H):=by
 intro pins s σ H xs us Q I r h;obtain ⟨p,bs,rfl,hp,q⟩:=h;obtain ⟨u,rfl,ru⟩:=Ax r;cases ru;obtain ⟨its,rv,pl,hz⟩:=I.list hp;have hl:=pl.isList;have hlt:=pl.lt;have hh:X.A.in1.handled=none:=I.ok.hd hc;have hlen:its.length=bs.length:=by rw [<- rv.length,ak]
 refine call_all_walk (iV hl ?_);refine ⟨s.heap.objs.size,[s.heap.objs.size,p],[s.heap.objs.size],its.toArray.size,_,_,fun i=>(bs[i]?).getD true,rfl,Walks.list (A:=X.A.in1) hh _ p (aE hlt) its.toArray,
   ⟨⟨_,aJ _ rfl,rfl,rfl⟩,hl.push _⟩,fun i v s' Q' E' hP hQ=>?_,fun h' tk hk=>?_⟩
 . have hi:its[i]?=some v:=by simpa using hP
   have hib:i<bs.length:=by rw [<- hlen];exact (aB.mp hi).1
   obtain ⟨u,hu,ru⟩:=rv.get (i:=i) (x:=V.bl bs[i]) (by rw [aU,aD hib];rfl);rw [hi] at hu;cases hu;cases ru;replace hQ:Q' (bs[i]?.getD true) s':=hQ;rw [aD hib] at hQ;exact cw hQ
 . have e:((List.range its.toArray.size).all fun i=>(bs[i]?).getD true)=bs.all id:=by
     rw [aG,hlen];rw [da,fk,fk]
     constructor
     . intro z b hb;obtain ⟨i,hi,rfl⟩:=qH hb;have:=z i (cN.mpr hi);rw [aD hi] at this;exact this
     . intro z i hi;have hi':=cN.mp hi;rw [aD hi'];exact z _ (hV hi')
   have kk:∀ b o,s.heap.get? b=some o->h'.get? b=some o:=fun b o eb=>hk b o (fun hm=>by rw [aI.mp hm] at eb;exact dl _ (aw eb)) (ap _ eb);rw [e];exact ⟨.bl _,H,I.kept (t':=tk) kk,rfl,q⟩
end
mutual
inductive Deep (K:PySem.W.Frag) (H:Hp):V->PyData->Prop
 | non:Deep K H .non .none
 | bl (b:Bool):Deep K H (.bl b) (.bool b)
 | int (i:Int):Deep K H (.int i) (.int i)
 | str {x:Str}:PyData.canLay0 (.str x)=true->Deep K H (.str x) (.str x)
 | lst {a:Addr} {xs:List V} {ds:List PyData}:SqL K H a xs->DeepAll K H xs ds->Deep K H (.ref a) (.list ds)
 | tup {a:Addr} {xs:List V} {ds:List PyData}:SqT K H a xs->DeepAll K H xs ds->Deep K H (.ref a) (.tuple ds)
inductive DeepAll (K:PySem.W.Frag) (H:Hp):List V->List PyData->Prop
 | nil:DeepAll K H [] []
 | cons {x:V} {d:PyData} {xs:List V} {ds:List PyData}:Deep K H x d->DeepAll K H xs ds->DeepAll K H (x::xs) (d::ds)
end
mutual
theorem Deep.reads {X:Cx} {pins:List (Addr × Obj)} {σ:St} {H:Hp} {s:Shared} (I:Inv X pins σ H s):∀ {x:V} {d:PyData} {u:Value},Deep X.K H x d->RelV x u->(∃ as,Reads s.heap u d as)/\d.canLay0=true
 | _,_,_,.non,r=>by cases (show _=Value.none from r);exact ⟨⟨_,.none⟩,by simp [PyData.canLay0]⟩
 | _,_,_,.bl b,r=>by cases (show _=Value.bool b from r);exact ⟨⟨_,.bool b⟩,by simp [PyData.canLay0]⟩
 | _,_,_,.int i,r=>by obtain ⟨t,e⟩:=(show ∃ t,_=Value.int i t from r);cases e;exact ⟨⟨_,.int i t⟩,by simp [PyData.canLay0]⟩
 | _,_,_,.str (x:=x) h,r=>by obtain ⟨t,e⟩:=(show ∃ t,_=Value.str x t from r);cases e;exact ⟨⟨_,.str x t⟩,h⟩
 | _,_,_,.lst (a:=a) h hs,r=>by
   cases (show _=Value.ref a from r);obtain ⟨its,rv,⟨o,n,e,c,_,dd⟩,hz⟩:=I.list h;obtain ⟨⟨as,ra⟩,cl⟩:=DeepAll.reads I hs rv;exact ⟨⟨_,.list e c dd (by simpa using ra)⟩,by simpa [PyData.canLay0] using cl⟩
 | _,_,_,.tup (a:=a) h hs,r=>by
   cases (show _=Value.ref a from r);obtain ⟨its,rv,⟨o,e,c,n,dd⟩,hz⟩:=I.tuple h;obtain ⟨⟨as,ra⟩,cl⟩:=DeepAll.reads I hs rv;exact ⟨⟨_,.tuple e c dd (by simpa using ra)⟩,by simpa [PyData.canLay0] using cl⟩
theorem DeepAll.reads {X:Cx} {pins:List (Addr × Obj)} {σ:St} {H:Hp} {s:Shared} (I:Inv X pins σ H s):∀ {xs:List V} {ds:List PyData} {us:List Value},DeepAll X.K H xs ds->Vals xs us->(∃ as,ReadsAll s.heap us ds as)/\PyData.canLayAll0 ds=true
 | _,_,_,.nil,.nil=>⟨⟨_,.nil⟩,by simp [PyData.canLayAll0]⟩
 | _,_,_,.cons h hs,.cons r rs=>by
   obtain ⟨⟨as,ra⟩,c1⟩:=Deep.reads I h r;obtain ⟨⟨bs,rb⟩,c2⟩:=DeepAll.reads I hs rs;exact ⟨⟨_,.cons ra rb⟩,by simp [PyData.canLayAll0,c1,c2]⟩
end
section
variable {X:Cx}
def dXa (K:PySem.W.Frag):R2:=fun x y H Q=>∃ d e,Deep K H x d/\Deep K H y e/\d.depth<=40/\Q (.bl (PyData.eqv d e)) H
def eKa (K:PySem.W.Frag):R2:=fun x y H Q=>∃ d e,Deep K H x d/\Deep K H y e/\d.depth<=40/\Q (.bl (!PyData.eqv d e)) H
theorem PK (hu:X.A.units+64<cLine):OpR X (compareOp .Eq) (dXa X.K):=by
 intro pins s σ H x y v u Q I rx ry h;obtain ⟨d,e,hd,he,hp,q⟩:=h;obtain ⟨⟨as,ra⟩,ca⟩:=hd.reads I rx;obtain ⟨⟨bs,rb⟩,cb⟩:=he.reads I ry;exact PySem.SeqAt.compareEq_reads ra rb ca cb (by omega) ⟨.bl _,H,I,rfl,q⟩
theorem dQa (hu:X.A.units+64<cLine):OpR X (compareOp .NotEq) (eKa X.K):=by
 intro pins s σ H x y v u Q I rx ry h;obtain ⟨d,e,hd,he,hp,q⟩:=h;obtain ⟨⟨as,ra⟩,ca⟩:=hd.reads I rx;obtain ⟨⟨bs,rb⟩,cb⟩:=he.reads I ry;exact PySem.SeqAt.compareNe_reads ra rb ca cb (by omega) ⟨.bl _,H,I,rfl,q⟩
end
end L2
namespace L2
open PySem PySem.Spec PyProof.Rows
structure SubF (P:Program) (w:World) (l:Addr) (ob:Obj) (src:Heap->Array Value->Prop) (at':Addr->Nat->Heap->Prop):Prop where
 start:∀ (A:Around) (s:Shared) (vs:Array Value) (Q:Value->Shared->Prop) (E:Value->Shared->Prop),src s.heap vs->Q (.ref s.heap.objs.size) { s with heap:=s.heap.push ob }->wpAny (model P w) A (pyIter (.ref l)) Q E s
 first:∀ it h,h.get? it=some ob->at' it 0 h
 atK:∀ it i h h',at' it i h->(∀ o,h.get? it=some o->h'.get? it=some o)->at' it i h'
 srcK:∀ h h' vs,src h vs->(∀ o,h.get? l=some o->h'.get? l=some o)->src h' vs
 obj:∀ it i h,at' it i h->∃ o,h.get? it=some o/\∀ v,o.data≠.cell v
 item:∀ (A:Around) (s:Shared) (it:Addr) (i:Nat) (vs:Array Value) (x:Value) (Q:Value->Shared->Prop) (E:Value->Shared->Prop),at' it i s.heap->src s.heap vs->vs[i]?=some x ->
   (∀ h',at' it (i+1) h'->Heap.SameBut it s.heap h'->Q x { s with heap:=h' })->wpAny (model P w) A (Builtin.SmallTypes.nextOf (.ref it)) Q E s
 fin:∀ (A:Around) (s:Shared) (it:Addr) (i:Nat) (vs:Array Value) (Q:Value->Shared->Prop) (E:Value->Shared->Prop),A.handled=none->at' it i s.heap->src s.heap vs->vs[i]?=none ->
   (∀ h' e,Heap.ExtBut it s.heap h'->(∃ o,h'.get? e=some o/\o.cls=.type "StopIteration")->E (.ref e) { s with heap:=h' })->wpAny (model P w) A (Builtin.SmallTypes.nextOf (.ref it)) Q E s
theorem WH {P:Program} {w:World} (l:Addr):SubF P w l { cls:=.type "list_iterator",data:=.fields #[.ref l,.int 0 0] } (fun h vs=>h.IsList l vs) (fun it i h=>h.IsListIter it l i) where
 start:=fun A s vs Q E hl hq=>iV hl hq
 first:=fun it h e=>⟨_,e,rfl,rfl⟩
 atK:=fun it i h h' x k=>x.at k
 srcK:=fun h h' vs x k=>x.at k
 obj:=fun it i h x=>by
   obtain ⟨o,ho,_,hd⟩:=x;exact ⟨o,ho,fun v z=>by rw [hd] at z;cases z⟩
 item:=fun A s it i vs x Q E ha hs hx hq=>wpAny_nextOf_list_item ha hs hx hq
 fin:=fun A s it i vs Q E hh ha hs hx hq=>wpAny_nextOf_list_end hh ha hs hx hq
section
variable {P:Program} {w:World} {A:Around} {E:Value->Shared->Prop} {s:Shared}
theorem Ht {it t:Addr} {i:Nat} {vs:Array Value} {x:Value} {Q:Value->Shared->Prop} (hi:s.heap.IsTupleIter it t i) (ht:s.heap.IsTuple t vs) (hx:vs[i]?=some x)
   (hq:∀ h',h'.IsTupleIter it t (i+1)->Heap.SameBut it s.heap h'->Q x { s with heap:=h' }):wpAny (model P w) A (Builtin.SmallTypes.nextOf (.ref it)) Q E s:=by
 obtain ⟨oi,hoi,hci,hdi⟩:=id hi;obtain ⟨ot,hot,_,nt,hdt⟩:=ht;unfold Builtin.SmallTypes.nextOf;refine aa (wpAny_callSpecial?_slot (name:=Str.ofString "__next__") hi.typeIs fS (bU fS hi.typeIs lH ?_ (kO _)));show wpAny (model P w) _ (field (.ref it) 0 >>= _) _ _ s;refine aa (b4 hoi hdi (x:=.ref t) rfl ?_);show wpAny (model P w) _ (if (Value.ref t == Value.none)=true then _ else _) _ _ s;rw [aj (by exact aP)];show wpAny (model P w) _ (field (.ref it) 1 >>= _) _ _ s;refine aa (b4 hoi hdi (x:=.int i 0) rfl ?_);show wpAny (model P w) _ (seqItems? (.ref t) >>= _) _ _ s;refine aa (dG hot hdt ?_);simp only [bF,hx];refine aa (c8 hoi hdi (by simp) (ao ⟨x,rfl,ao (hq _ ?_ (dY ..))⟩));exact ⟨_,bI _ hoi (cM (bK hdi _)),(gG ..).trans hci,by rw [bK hdi];simp [rawInt]⟩
theorem Iu {it t:Addr} {i:Nat} {vs:Array Value} {Q:Value->Shared->Prop} (hh:A.handled=none) (hi:s.heap.IsTupleIter it t i) (ht:s.heap.IsTuple t vs) (hx:vs[i]?=none)
   (hE:∀ h' e,Heap.ExtBut it s.heap h'->(∃ o,h'.get? e=some o/\o.cls=.type "StopIteration")->E (.ref e) { s with heap:=h' }):wpAny (model P w) A (Builtin.SmallTypes.nextOf (.ref it)) Q E s:=by
 obtain ⟨oi,hoi,hci,hdi⟩:=id hi;obtain ⟨ot,hot,_,nt,hdt⟩:=ht;unfold Builtin.SmallTypes.nextOf;refine aa (wpAny_callSpecial?_slot (name:=Str.ofString "__next__") hi.typeIs fS (bU fS hi.typeIs lH ?_ (kO _)));show wpAny (model P w) _ (field (.ref it) 0 >>= _) _ _ s;refine aa (b4 hoi hdi (x:=.ref t) rfl ?_);show wpAny (model P w) _ (if (Value.ref t == Value.none)=true then _ else _) _ _ s;rw [aj (by exact aP)];show wpAny (model P w) _ (field (.ref it) 1 >>= _) _ _ s;refine aa (b4 hoi hdi (x:=.int i 0) rfl ?_);show wpAny (model P w) _ (seqItems? (.ref t) >>= _) _ _ s;refine aa (dG hot hdt ?_);simp only [bF,hx];refine aa (kR (aa (c8 hoi hdi (by simp) ?_)));show wpAny (model P w) _ (newExc (.type "StopIteration") [] >>= _) _ _ _;refine aa ?_;simp only [newExc,newTuple];refine aa (bX ?_ (by size_fits));refine aa (m:=firstArgMember _ _) (wpAny_of_eq (a:=Value.none) (by first|rfl|(simp only [firstArgMember];rfl)) ?_);refine bX ?_ (by size_fits);simp only [raiseNew];refine aa (wpAny_handled ?_)
 first|rw [show A.in1.handled=none from hh]|rw [hh]
 refine aa (ao (wpAny_throw ?_));exact hE _ _ (((dY ..).extBut.push _).push _) ⟨_,aJ _ rfl,rfl⟩
end
theorem ZL {P:Program} {w:World} (l:Addr):SubF P w l { cls:=.type "tuple_iterator",data:=.fields #[.ref l,.int 0 0] } (fun h vs=>h.IsTuple l vs) (fun it i h=>h.IsTupleIter it l i) where
 start:=fun A s vs Q E hl hq=>wpAny_pyIter_tuple hl hq
 first:=fun it h e=>⟨_,e,rfl,rfl⟩
 atK:=fun it i h h' x k=>let ⟨o,ho,r⟩:=x;⟨o,k o ho,r⟩
 srcK:=fun h h' vs x k=>let ⟨o,ho,r⟩:=x;⟨o,k o ho,r⟩
 obj:=fun it i h x=>by
   obtain ⟨o,ho,_,hd⟩:=x;exact ⟨o,ho,fun v z=>by rw [hd] at z;cases z⟩
 item:=fun A s it i vs x Q E ha hs hx hq=>Ht ha hs hx hq
 fin:=fun A s it i vs Q E hh ha hs hx hq=>Iu hh ha hs hx hq
end L2
namespace L2
open PySem PySem.Spec PyProof.Rows
structure ZAp (z TI TO i1 i2 l1 l2:Addr):Prop where
 a1:TI≠z
 a2:TO≠z
 a3:i1≠z
 a4:i2≠z
 a5:TI≠TO
 a6:TI≠i1
 a7:TI≠i2
 a8:TO≠i1
 a9:TO≠i2
 a0:i1≠i2
 b1:l1≠z/\l1≠TO/\l1≠i1/\l1≠i2
 b2:l2≠z/\l2≠TO/\l2≠i1/\l2≠i2
section
variable {P:Program} {w:World} {A:Around} {E:Value->Shared->Prop} {s:Shared} {l1 l2:Addr} {ob1 ob2:Obj} {src1 src2:Heap->Array Value->Prop} {at1 at2:Addr->Nat->Heap->Prop}
theorem Qp (S1:SubF P w l1 ob1 src1 at1) (S2:SubF P w l2 ob2 src2 at2) {z TI TO i1 i2:Addr} {k1 k2:Nat} {xs ys:Array Value} {x y a b:Value} {Q:Value->Shared->Prop} (D:ZAp z TI TO i1 i2 l1 l2)
   (Hz:IsZip s.heap z TI TO .none) (HI:IsPair s.heap TI (.ref i1) (.ref i2)) (HO':IsPair s.heap TO a b) (p1:at1 i1 k1 s.heap) (p2:at2 i2 k2 s.heap) (q1:src1 s.heap xs) (q2:src2 s.heap ys) (hx:xs[k1]?=some x) (hy:ys[k2]?=some y)
   (hQ:∀ h',IsZip h' z TI TO (rawInt s.heap.objs.size)->IsPair h' TO x y->at1 i1 (k1+1) h'->at2 i2 (k2+1) h'->IsPair h' s.heap.objs.size x y->h'.objs.size=s.heap.objs.size+1 ->
     (∀ c o,c≠z->c≠TO->c≠i1->c≠i2->s.heap.get? c=some o->h'.get? c=some o)->Q (.ref s.heap.objs.size) { s with heap:=h' }) :
   wpAny (model P w) A (Builtin.«zip.__next__» ⟨[.ref z],[]⟩) (fun fn s'=>∃ v,fn=.done (.ret v)/\Q v s') E s:=by
 show wpAny (model P w) _ (field (.ref z) 2 >>= _) _ _ _;refine aa (b4 Hz rfl (x:=.bool false) rfl ?_);show wpAny (model P w) _ (field (.ref z) 3 >>= _) _ _ _;refine aa (b4 Hz rfl (x:=.ref TI) rfl ?_);refine aa (dG HI rfl ?_);show wpAny (model P w) _ (Builtin.SmallTypes.ownedTupleIsFree (.ref z) >>= _) _ _ _;refine aa ?_;unfold Builtin.SmallTypes.ownedTupleIsFree;refine aa (b4 Hz rfl (x:=.none) rfl (ao ?_));simp only [if_true];refine aa (kR ?_);refine aa (b4 Hz rfl (x:=.ref TO) rfl ?_);refine aa (fq Hz (by simp) fun g1 z1 e1=>?_);replace z1:IsZip g1 z TI TO .ellipsis:=z1;refine aa ?_;simp only [List.zipIdx_cons,List.zipIdx_nil,oN,List.forIn_nil];refine aa (aa (kY ?_));show wpAny (model P w) _ (Builtin.SmallTypes.nextOf (.ref i1) >>= _) _ _ _;refine aa (S1.item _ { s with heap:=g1 } i1 k1 xs x _ _ (S1.atK _ _ _ _ p1 fun o e=>e1.extBut _ _ D.a3 e) (S1.srcK _ _ _ q1 fun o e=>e1.extBut _ _ D.b1.1 e) hx fun g2 p1b e2=>ao ?_);have o2:IsPair g2 TO a b:=e2.extBut _ _ D.a8 (e1.extBut _ _ D.a2 HO');refine aa (dG o2 rfl ?_);refine aa (j2 o2 fun g3 o3 e3=>?_);replace o3:IsPair g3 TO x b:=o3;refine aa (jY (ao ?_));refine aa (aa (kY ?_));show wpAny (model P w) _ (Builtin.SmallTypes.nextOf (.ref i2) >>= _) _ _ _;refine aa (S2.item _ { s with heap:=g3 } i2 k2 ys y _ _ (S2.atK _ _ _ _ p2 fun o e=>e3.extBut _ _ D.a9.symm (e2.extBut _ _ D.a0.symm (e1.extBut _ _ D.a4 e))) (S2.srcK _ _ _ q2 fun o e=>e3.extBut _ _ D.b2.2.1 (e2.extBut _ _ D.b2.2.2.1 (e1.extBut _ _ D.b2.1 e))) hy fun g4 p2b e4=>ao ?_);have o4:IsPair g4 TO x b:=e4.extBut _ _ D.a9 o3;refine aa (dG o4 rfl ?_);refine aa (j2 o4 fun g5 o5 e5=>?_);replace o5:IsPair g5 TO x y:=o5;refine aa (jY (ao (ao ?_)));refine aa (dG o5 rfl ?_);refine aa (wpAny_newTuple ?_);have sz:g5.objs.size=s.heap.objs.size:=by rw [e5.1,e4.1,e3.1,e2.1,e1.1]
 have z5:IsZip g5 z TI TO .ellipsis:=e5.extBut _ _ D.a2.symm (e4.extBut _ _ D.a4.symm (e3.extBut _ _ D.a2.symm (e2.extBut _ _ D.a3.symm z1)));have k5:∀ c o,c≠z->c≠TO->c≠i1->c≠i2->s.heap.get? c=some o->g5.get? c=some o:=fun c o c1 c2 c3 c4 e =>
   e5.extBut _ _ c2 (e4.extBut _ _ c4 (e3.extBut _ _ c2 (e2.extBut _ _ c3 (e1.extBut _ _ c1 e))))
 have p15:at1 i1 (k1+1) g5:=S1.atK _ _ _ _ p1b fun o e=>e5.extBut _ _ D.a8.symm (e4.extBut _ _ D.a0 (e3.extBut _ _ D.a8.symm e));have p25:at2 i2 (k2+1) g5:=S2.atK _ _ _ _ p2b fun o e=>e5.extBut _ _ D.a9.symm e;have zlt:z<g5.objs.size:=aw z5;show wpAny (model P w) _ (Builtin.SmallTypes.ownedTupleHandOut (.ref z) (.ref g5.objs.size) >>= _) _ _ _;refine aa ?_;unfold Builtin.SmallTypes.ownedTupleHandOut;have z6:IsZip (g5.push { cls:=.type "tuple",data:=.seq #[x,y] }) z TI TO .ellipsis:=ap _ z5;refine aa (fq z6 (by simp) fun g7 z7 e7=>?_);replace z7:IsZip g7 z TI TO (rawInt g5.objs.size):=z7;refine fq z7 (by simp) fun g8 z8 e8=>?_;replace z8:IsZip g8 z TI TO (rawInt g5.objs.size):=z8;have up:∀ c o,c≠z->g5.get? c=some o->g8.get? c=some o:=fun c o c1 e=>e8.extBut _ _ c1 (e7.extBut _ _ c1 (ap _ e));have t8:IsPair g8 g5.objs.size x y:=e8.extBut _ _ (dI zlt) (e7.extBut _ _ (dI zlt) (aJ _ rfl));have s8:g8.objs.size=g5.objs.size+1:=by rw [e8.1,e7.1,cm]
 rw [sz] at z8 t8 s8;refine ao ⟨_,rfl,?_⟩;show Q (.ref g5.objs.size) _;rw [sz];exact hQ g8 z8 (up _ _ D.a2 o5) (S1.atK _ _ _ _ p15 fun o e=>up _ o D.a3 e) (S2.atK _ _ _ _ p25 fun o e=>up _ o D.a4 e) t8 s8 fun c o c1 c2 c3 c4 e=>up c o c1 (k5 c o c1 c2 c3 c4 e)
theorem SH (S1:SubF P w l1 ob1 src1 at1) (S2:SubF P w l2 ob2 src2 at2) {z TI TO i1 i2:Addr} {k1 k2:Nat} {xs ys:Array Value} {a b:Value} {Q:Fin->Shared->Prop} (hh:A.handled=none) (D:ZAp z TI TO i1 i2 l1 l2)
   (Hz:IsZip s.heap z TI TO .none) (HI:IsPair s.heap TI (.ref i1) (.ref i2)) (HO':IsPair s.heap TO a b) (p1:at1 i1 k1 s.heap) (p2:at2 i2 k2 s.heap) (q1:src1 s.heap xs) (q2:src2 s.heap ys) (hend:xs[k1]?=none\/ys[k2]?=none)
   (hE:∀ h' e,(∀ c o,c≠z->c≠TO->c≠i1->c≠i2->s.heap.get? c=some o->h'.get? c=some o)->(∃ o,h'.get? e=some o/\o.cls=.type "StopIteration")->E (.ref e) { s with heap:=h' }) :
   wpAny (model P w) A (Builtin.«zip.__next__» ⟨[.ref z],[]⟩) Q E s:=by
 show wpAny (model P w) _ (field (.ref z) 2 >>= _) _ _ _;refine aa (b4 Hz rfl (x:=.bool false) rfl ?_);show wpAny (model P w) _ (field (.ref z) 3 >>= _) _ _ _;refine aa (b4 Hz rfl (x:=.ref TI) rfl ?_);refine aa (dG HI rfl ?_);show wpAny (model P w) _ (Builtin.SmallTypes.ownedTupleIsFree (.ref z) >>= _) _ _ _;refine aa ?_;unfold Builtin.SmallTypes.ownedTupleIsFree;refine aa (b4 Hz rfl (x:=.none) rfl (ao ?_));simp only [if_true];refine aa (kR ?_);refine aa (b4 Hz rfl (x:=.ref TO) rfl ?_);refine aa (fq Hz (by simp) fun g1 z1 e1=>?_);replace z1:IsZip g1 z TI TO .ellipsis:=z1;refine aa ?_;simp only [List.zipIdx_cons,List.zipIdx_nil,oN,List.forIn_nil];refine aa (aa (kY ?_));show wpAny (model P w) _ (Builtin.SmallTypes.nextOf (.ref i1) >>= _) _ _ _;have p1a:at1 i1 k1 g1:=S1.atK _ _ _ _ p1 fun o e=>e1.extBut _ _ D.a3 e;have q1a:src1 g1 xs:=S1.srcK _ _ _ q1 fun o e=>e1.extBut _ _ D.b1.1 e;cases hx:xs[k1]? with
 | none =>
   refine aa (S1.fin _ { s with heap:=g1 } i1 k1 xs _ _ hh p1a q1a hx fun g2 e e2 he=>?_);obtain ⟨oe,hoe,hce⟩:=he;have z2:IsZip g2 z TI TO .ellipsis:=e2 _ _ D.a3.symm z1;have ez:e≠z:=fun t=>by subst t;rw [z2] at hoe;cases hoe;simp at hce
   refine fq z2 (by simp) fun g3 _ e3=>hE g3 e (fun c o c1 _ c3 _ t=>e3.extBut _ _ c1 (e2 _ _ c3 (e1.extBut _ _ c1 t))) ⟨oe,e3.extBut _ _ ez hoe,hce⟩
 | some x =>
   have hy:ys[k2]?=none:=by
     rcases hend with h|h
     . rw [hx] at h;cases h
     . exact h
   refine aa (S1.item _ { s with heap:=g1 } i1 k1 xs x _ _ p1a q1a hx fun g2 p1b e2=>ao ?_);have o2:IsPair g2 TO a b:=e2.extBut _ _ D.a8 (e1.extBut _ _ D.a2 HO');refine aa (dG o2 rfl ?_);refine aa (j2 o2 fun g3 o3 e3=>?_);refine aa (jY (ao ?_));refine aa (aa (kY ?_));show wpAny (model P w) _ (Builtin.SmallTypes.nextOf (.ref i2) >>= _) _ _ _;refine aa (S2.fin _ { s with heap:=g3 } i2 k2 ys _ _ hh (S2.atK _ _ _ _ p2 fun o e=>e3.extBut _ _ D.a9.symm (e2.extBut _ _ D.a0.symm (e1.extBut _ _ D.a4 e))) (S2.srcK _ _ _ q2 fun o e=>e3.extBut _ _ D.b2.2.1 (e2.extBut _ _ D.b2.2.2.1 (e1.extBut _ _ D.b2.1 e))) hy fun g4 e e4 he=>?_);obtain ⟨oe,hoe,hce⟩:=he;have z4:IsZip g4 z TI TO .ellipsis:=e4 _ _ D.a4.symm (e3.extBut _ _ D.a2.symm (e2.extBut _ _ D.a3.symm z1));have ez:e≠z:=fun t=>by subst t;rw [z4] at hoe;cases hoe;simp at hce
   refine fq z4 (by simp) fun g5 _ e5=>hE g5 e (fun c o c1 c2 c3 c4 t=>e5.extBut _ _ c1 (e4 _ _ c4 (e3.extBut _ _ c2 (e2.extBut _ _ c3 (e1.extBut _ _ c1 t))))) ⟨oe,e5.extBut _ _ ez hoe,hce⟩
abbrev zp1 (h:Heap) (ob1 ob2:Obj):Heap:=(h.push ob1).push ob2
abbrev zp2 (h:Heap) (ob1 ob2:Obj):Heap:=(zp1 h ob1 ob2).push { cls:=.type "tuple",data:=.seq #[.ref h.objs.size,.ref (h.push ob1).objs.size] }
abbrev zp3 (h:Heap) (ob1 ob2:Obj):Heap:=(zp2 h ob1 ob2).push { cls:=.type "tuple",data:=.seq #[.none,.none] }
abbrev zp4 (h:Heap) (ob1 ob2:Obj):Heap:=(zp3 h ob1 ob2).push { cls:=.type "zip",data:=.fields #[.none,.bool false,.bool false,.ref (zp1 h ob1 ob2).objs.size,.ref (zp2 h ob1 ob2).objs.size] }
theorem Oi (S1:∀ P w,SubF P w l1 ob1 src1 at1) (S2:∀ P w,SubF P w l2 ob2 src2 at2) (ne:∀ h vs,src2 h vs->∃ o,h.get? l2=some o) (xs ys:Array Value) :
   Meets (Builtin.«zip.__new__» ⟨[.type "zip",.ref l1,.ref l2],[]⟩) (fun _ R s=>src1 s.heap xs/\src2 s.heap ys/\R (.ok (.ret (.ref (zp3 s.heap ob1 ob2).objs.size))) { s with heap:=zp4 s.heap ob1 ob2 }) :=
 .of_wp fun prog w A R s hyp=>by
   obtain ⟨hp,g,d,tk,os⟩:=s;obtain ⟨q1,q2,r⟩:=hyp;have zsub:=sub_zip;have B1:src1 (Shared.heap ⟨hp,g,d,tk,os⟩) xs:=q1;have B2:src2 (Shared.heap ⟨hp.push ob1,g,d,tk,os⟩) ys:=(S2 prog w).srcK _ _ _ q2 fun o e=>ap _ e
   wp_walk using ((S1 prog w).start _ _ _ _ _ B1),((S2 prog w).start _ _ _ _ _ B2)
   exact ⟨_,rfl,r⟩
theorem ZG (S1:∀ P w,SubF P w l1 ob1 src1 at1) (S2:∀ P w,SubF P w l2 ob2 src2 at2) (ne:∀ h vs,src2 h vs->∃ o,h.get? l2=some o) {xs ys:Array Value} {Q:Value->Shared->Prop} (q1:src1 s.heap xs) (q2:src2 s.heap ys)
   (h:∀ h',IsZip h' (s.heap.objs.size+4) (s.heap.objs.size+2) (s.heap.objs.size+3) .none->IsPair h' (s.heap.objs.size+2) (.ref s.heap.objs.size) (.ref (s.heap.objs.size+1)) ->
     IsPair h' (s.heap.objs.size+3) .none .none->at1 s.heap.objs.size 0 h'->at2 (s.heap.objs.size+1) 0 h' ->
     (∀ c o,s.heap.get? c=some o->h'.get? c=some o)->Q (.ref (s.heap.objs.size+4)) { s with heap:=h' }) (f1:ob1.isFreed=false) (f2:ob2.isFreed=false) :
   wpAny (model P w) A (call (.type "zip") [.ref l1,.ref l2]) Q E s:=by
 refine callType_new F.called_zip (by decide) (F.typeCall_zip_2 _ _) (F.newCall_zip_2 _ _) (fun obj=>F.args_object_init_3 obj _ _) F.entry_zip_new (Oi S1 S2 ne xs ys) ⟨q1,q2,?_⟩;have n0:(s.heap.push ob1).objs.size=s.heap.objs.size+1:=cm ..;have n1:(zp1 s.heap ob1 ob2).objs.size=s.heap.objs.size+2:=by rw [cm,n0]
 have n2:(zp2 s.heap ob1 ob2).objs.size=s.heap.objs.size+3:=by rw [cm,n1]
 have n3:(zp3 s.heap ob1 ob2).objs.size=s.heap.objs.size+4:=by rw [cm,n2]
 have c5:(zp4 s.heap ob1 ob2).get? (zp3 s.heap ob1 ob2).objs.size=some _:=aJ _ rfl;have c4:(zp4 s.heap ob1 ob2).get? (zp2 s.heap ob1 ob2).objs.size=some _:=ap _ (aJ _ rfl);have c3:(zp4 s.heap ob1 ob2).get? (zp1 s.heap ob1 ob2).objs.size=some _:=ap _ (ap _ (aJ _ rfl));have c2:(zp4 s.heap ob1 ob2).get? (s.heap.push ob1).objs.size=some ob2:=ap _ (ap _ (ap _ (aJ _ f2)));have c1:(zp4 s.heap ob1 ob2).get? s.heap.objs.size=some ob1:=ap _ (ap _ (ap _ (ap _ (aJ _ f1))));show _/\_;rw [n1,n2,n3] at c5;rw [n0,n1] at c3;rw [n2] at c4;rw [n0] at c2;rw [n3];exact ⟨⟨_,c5,rfl⟩,h _ c5 c3 c4 ((S1 P w).first _ _ c1) ((S2 P w).first _ _ c2) fun c o e=>ap _ (ap _ (ap _ (ap _ (ap _ e))))⟩
end
def SqX (K:PySem.W.Frag):Bool->Hp->Addr->List V->Prop
 | true,H,a,xs=>SqL K H a xs
 | false,H,a,xs=>SqT K H a xs
def Itz (K:PySem.W.Frag) (c d:Bool) (a b:Addr):It :=
 ⟨fun i H=>∃ xs ys x y,SqX K c H a xs/\SqX K d H b ys/\xs[i]?=some x/\ys[i]?=some y,
  fun i H v H'=>∃ p x y,H p=none/\v=.ref p/\H'=upd H p (.tup [x,y])/\(∀ xs,SqX K c H a xs->xs[i]?=some x)/\∀ ys,SqX K d H b ys->ys[i]?=some y,
  fun i H=>∃ xs ys,SqX K c H a xs/\SqX K d H b ys/\(xs.length<=i\/ys.length<=i)⟩
def dOa (a:Addr):Bool->Obj
 | true=>{ cls:=.type "list_iterator",data:=.fields #[.ref a,.int 0 0] }
 | false=>{ cls:=.type "tuple_iterator",data:=.fields #[.ref a,.int 0 0] }
def Vf (a:Addr):Bool->Heap->Array Value->Prop
 | true,h,vs=>h.IsList a vs
 | false,h,vs=>h.IsTuple a vs
def zAt (a:Addr):Bool->Addr->Nat->Heap->Prop
 | true,it,i,h=>h.IsListIter it a i
 | false,it,i,h=>h.IsTupleIter it a i
theorem kZ (a:Addr) (c:Bool) (P:Program) (w:World):SubF P w a (dOa a c) (Vf a c) (zAt a c):=by
 cases c
 . exact ZL a
 . exact WH a
theorem FG (a:Addr) (c:Bool):(dOa a c).isFreed=false:=by cases c <;> rfl
theorem yt (a:Addr) (c:Bool) (h:Heap) (vs:Array Value) (e:Vf a c h vs):∃ o,h.get? a=some o:=by
 cases c
 . obtain ⟨o,ho,_⟩:=e;exact ⟨o,ho⟩
 . obtain ⟨o,ho,_⟩:=e;exact ⟨o,ho⟩
theorem Inv.sqX {X:Cx} {pins:List (Addr × Obj)} {σ:St} {H:Hp} {s:Shared} {c:Bool} {a:Addr} {xs:List V} (I:Inv X pins σ H s) (h:SqX X.K c H a xs):∃ its:List Value,Vals xs its/\Vf a c s.heap its.toArray:=by
 cases c with
 | true =>
   obtain ⟨its,r,pl,_⟩:=I.list h;exact ⟨its,r,pl.isList⟩
 | false =>
   obtain ⟨its,r,⟨o,ho,hc,n,hd⟩,_⟩:=I.tuple h;exact ⟨its,r,⟨o,ho,hc,n,hd⟩⟩
theorem Inv.sqX_inj {X:Cx} {pins:List (Addr × Obj)} {σ:St} {H:Hp} {s:Shared} {c:Bool} {a:Addr} {xs ys:List V} (I:Inv X pins σ H s) (h:SqX X.K c H a xs) (h':SqX X.K c H a ys):xs=ys:=by
 cases c with
 | true=>exact I.list_inj h h'
 | false=>exact I.tuple_inj h h'
theorem YW {P:Program} {w:World} {K:PySem.W.Frag} {elts:List Expr} {x1} {tpos:Pos} (c d:Bool) (a b z TI TO i1 i2:Addr) (D:ZAp z TI TO i1 i2 a b) :
   Turn P w K (.Tuple elts x1 tpos) (Itz K c d a b) [z,TI,TO,i1,i2] z (fun i h=>IsZip h z TI TO .none/\IsPair h TI (.ref i1) (.ref i2)/\(∃ u v,IsPair h TO u v)/\zAt a c i1 i h/\zAt b d i2 i h) where
 mem:=by simp
 obj:=fun i h t e he=>by
   obtain ⟨t1,t2,⟨u,v,t3⟩,t4,t5⟩:=t;simp only [az,df,or_false] at he;rcases he with rfl|rfl|rfl|rfl|rfl
   . exact ⟨_,t1,fun v z=>by cases z⟩
   . exact ⟨_,t2,fun v z=>by cases z⟩
   . exact ⟨_,t3,fun v z=>by cases z⟩
   . exact (kZ a c P w).obj _ _ _ t4
   . exact (kZ b d P w).obj _ _ _ t5
 keep:=fun i h h' t k=>by
   obtain ⟨t1,t2,⟨u,v,t3⟩,t4,t5⟩:=t;exact ⟨k z (by simp) _ t1,k TI (by simp) _ t2,⟨u,v,k TO (by simp) _ t3⟩,(kZ a c P w).atK _ _ _ _ t4 fun o e=>k i1 (by simp) o e,(kZ b d P w).atK _ _ _ _ t5 fun o e=>k i2 (by simp) o e⟩
 item:=fun X e1 e2 e3 hc i pins s σ H E I f t g=>by
   subst e1 e2 e3;obtain ⟨t1,t2,⟨u,v,t3⟩,t4,t5⟩:=t;obtain ⟨xs,ys,x,y,s1,s2,hx,hy⟩:=g;obtain ⟨us,r1,q1⟩:=I.sqX s1;obtain ⟨vs,r2,q2⟩:=I.sqX s2;obtain ⟨xu,hxu,rx⟩:=r1.get hx;obtain ⟨yu,hyu,ry⟩:=r2.get hy;have hT:s.TypeIs (.ref z) "zip":=⟨_,t1,rfl⟩;unfold pyNext;refine aa (gQ (wpAny_callSpecial?_slot (name:=Str.ofString "__next__") hT ke (bU ke hT F.entry_zip_next
     (Qp (kZ a c _ _) (kZ b d _ _) D t1 t2 t3 t4 t5 q1 q2 (x:=xu) (y:=yu) (by simpa using hxu) (by simpa using hyu) fun h' w1 w2 w3 w4 w5 w6 w7=>ao ?_) (F.args_zip_next_1 _))))
   refine ⟨_,rfl,wpAny_letOwnedTupleGo_zip w1 fun h2 n1 n2=>?_⟩;have fz:∀ q∈[z,TI,TO,i1,i2],tU X pins H q:=f;have lt0:s.heap.objs.size≠z:=dI (aw t1);have new:IsPair h2 s.heap.objs.size xu yu:=n2.extBut _ _ lt0 w5;have kp:∀ q o,q ∉ [z,TI,TO,i1,i2]->s.heap.get? q=some o->h2.get? q=some o:=fun q o hq e=>by
     simp only [az,df,or_false,not_or] at hq;exact n2.extBut _ _ hq.1 (w7 q o hq.1 hq.2.2.1 hq.2.2.2.1 hq.2.2.2.2 e)
   have kTI:h2.get? TI=some _:=n2.extBut _ _ D.a1 (w7 TI _ D.a1 D.a5 D.a6 D.a7 t2);have Hn:∀ q u,H q=some u->q ∉ [z,TI,TO,i1,i2]:=fun q u e hq=>by rw [(fz q hq).1] at e;cases e
   have I2:Inv X pins σ H { s with heap:=h2 }:=by
     refine I.step (g':=s.gens) (d':=s.drawn) (t':=s.toks) (ch:=[z,TI,TO,i1,i2]) (fun q hq=>⟨(fz q hq).2.2.2.1,(fz q hq).2.1,(fz q hq).2.2.2.2.1,(fz q hq).2.2.2.2.2⟩) (fun q o _ _ hq e _=>kp q o hq e) (fun q o _ _ hq e _=>⟨o.slots,kp q o hq e⟩) (fun _ _ _ _ n=>n)
       (fun q o hq e=>⟨o,kp q o hq e⟩) (fun _ _ e=>e) (fun _ _ _ e=>e) (fun q ps e=>⟨#[],by rw [e];simp⟩) (fun m hm=>?_) (fun q u e=>?_) I.bare
     . obtain ⟨o,es,ep,ho,r⟩:=hm;exact ⟨o,es,ep,kp _ o (fun hq=>(fz _ hq).2.1 rfl) ho,r⟩
     . refine (I.hok q u e).stay (fun q' v hq' e'=>kp q' v ?_ e') (fun _ e'=>e') fun _ _ e'=>e';rcases hq' with rfl|hq'
       . exact Hn _ u e
       . exact Hn _ _ hq'
   have nH:H s.heap.objs.size=none:=I.fresh;have I3:Inv X pins σ (upd H s.heap.objs.size (.tup [x,y])) { s with heap:=h2 }:=by
     refine ⟨I2.ok,I2.os,I2.bare,?_,I2.loc,I2.cell,?_,fun n c e=>?_,fun p hp=>?_,fun q u e=>?_,I2.len⟩
     . refine ⟨I2.base.keep,I2.base.slot,fun q o e n hx=>?_,I2.base.there,fun q xs e=>?_,fun q o u e=>?_,fun q ps e=>?_⟩
       . have lt:q<X.s₀.heap.objs.size:=aw e;rw [aR (aE (aM lt I.sz))];exact I2.base.free q o e n hx
       . have e':=I2.base.tups q xs e;rw [aR (fun z=>by rw [z,nH] at e';cases e')];exact e'
       . have e':=I2.base.frzs q o u e;rw [aR (fun z=>by rw [z,nH] at e';cases e')];exact e'
       . obtain ⟨more,e'⟩:=I2.base.tbls q ps e;exact ⟨more,by rw [aR (fun z=>by rw [z,nH] at e';cases e')];exact e'⟩
     . rw [aR (aE I.lt)];exact I2.free
     . obtain ⟨vv,o,ho,_⟩:=I.cell n c e;rw [aR (aE (aw ho))];exact I2.freeC n c e
     . obtain ⟨k1,k2,k3⟩:=I.pin p hp;rw [aR (aE (aw k1))];exact I2.pin p hp
     . by_cases hq:q=s.heap.objs.size
       . subst hq;rw [aq] at e;cases e;exact ⟨by show 2<=sizeLine;decide,[xu,yu],.cons rx (.cons ry .nil),_,new,rfl,_,rfl⟩
       . rw [aR hq] at e;refine (I2.hok q u e).stay (fun _ _ _ e'=>e') (fun q' e'=>?_) fun q' xs e'=>?_
         . rw [aR (fun z=>by rw [z,nH] at e';cases e')];exact e'
         . rw [aR (fun z=>by rw [z,nH] at e';cases e')];exact e'
   refine ⟨.ref s.heap.objs.size,_,I3,rfl,⟨_,x,y,nH,rfl,rfl,fun xs' q=>?_,fun ys' q=>?_⟩,⟨n1,kTI,⟨_,_,n2.extBut _ _ D.a2 w2⟩,(kZ a c X.prog X.w).atK _ _ _ _ w3 fun o e=>n2.extBut _ _ D.a3 e,(kZ b d X.prog X.w).atK _ _ _ _ w4 fun o e=>n2.extBut _ _ D.a4 e⟩,fun q hq=>?_⟩
   . rw [<- I.sqX_inj s1 q];exact hx
   . rw [<- I.sqX_inj s2 q];exact hy
   . have hlt:q<s.heap.objs.size:=by
       simp only [az,df,or_false] at hq;rcases hq with rfl|rfl|rfl|rfl|rfl
       . exact aw t1
       . exact aw t2
       . exact aw t3
       . exact let ⟨o,e,_⟩:=(kZ a c X.prog X.w).obj _ _ _ t4;aw e
       . exact let ⟨o,e,_⟩:=(kZ b d X.prog X.w).obj _ _ _ t5;aw e
     rw [aR (aE hlt)];exact (fz q hq).1
 done:=fun X e1 e2 e3 hc i pins s σ H E I f t g=>by
   subst e1 e2 e3;obtain ⟨t1,t2,⟨u,v,t3⟩,t4,t5⟩:=t;obtain ⟨xs,ys,s1,s2,hend⟩:=g;obtain ⟨us,r1,q1⟩:=I.sqX s1;obtain ⟨vs,r2,q2⟩:=I.sqX s2;have fz:∀ q∈[z,TI,TO,i1,i2],tU X pins H q:=f;have hh:X.A.handled=none:=I.ok.hd hc;have hT:s.TypeIs (.ref z) "zip":=⟨_,t1,rfl⟩;have hend':us.toArray[i]?=none\/vs.toArray[i]?=none:=by
     rcases hend with e|e
     . exact .inl (by have:=r1.length;simp;omega)
     . exact .inr (by have:=r2.length;simp;omega)
   unfold pyNext;refine aa (gQ (wpAny_callSpecial?_slot (name:=Str.ofString "__next__") hT ke (bU ke hT F.entry_zip_next
     (SH (kZ a c _ _) (kZ b d _ _) hh D t1 t2 t3 t4 t5 q1 q2 hend' fun h' e hk he=>?_) (F.args_zip_next_1 _))))
   obtain ⟨o,ho,hcl⟩:=he;refine aa (dQ (T:="StopIteration") (b:=true) ⟨o,ho,hcl⟩ isSubtype_stop (ao ⟨rfl,?_⟩));have kp:∀ q o,q ∉ [z,TI,TO,i1,i2]->s.heap.get? q=some o->h'.get? q=some o:=fun q o hq e=>by
     simp only [az,df,or_false,not_or] at hq;exact hk q o hq.1 hq.2.2.1 hq.2.2.2.1 hq.2.2.2.2 e
   have Hn:∀ q u,H q=some u->q ∉ [z,TI,TO,i1,i2]:=fun q u e hq=>by rw [(fz q hq).1] at e;cases e
   refine I.step (g':=s.gens) (d':=s.drawn) (t':=s.toks) (ch:=[z,TI,TO,i1,i2]) (fun q hq=>⟨(fz q hq).2.2.2.1,(fz q hq).2.1,(fz q hq).2.2.2.2.1,(fz q hq).2.2.2.2.2⟩) (fun q o _ _ hq e _=>kp q o hq e) (fun q o _ _ hq e _=>⟨o.slots,kp q o hq e⟩) (fun _ _ _ _ n=>n)
     (fun q o hq e=>⟨o,kp q o hq e⟩) (fun _ _ e=>e) (fun _ _ _ e=>e) (fun q ps e=>⟨#[],by rw [e];simp⟩) (fun m hm=>?_) (fun q u e=>?_) I.bare
   . obtain ⟨o,es,ep,ho,r⟩:=hm;exact ⟨o,es,ep,kp _ o (fun hq=>(fz _ hq).2.1 rfl) ho,r⟩
   . refine (I.hok q u e).stay (fun q' v hq' e'=>kp q' v ?_ e') (fun _ e'=>e') fun _ _ e'=>e';rcases hq' with rfl|hq'
     . exact Hn _ u e
     . exact Hn _ _ hq'
 self:=fun A i s Q E t q=>wpAny_pyIter_zip t.1 q
end L2
namespace L2
open PySem PySem.Spec PyProof.Rows
section
variable {X:Cx} {pins:List (Addr × Obj)} {σ:St} {H H2:Hp} {s s2:Shared} {a:Addr} {o:HO}
theorem Inv.track (I:Inv X pins σ H s) (I2:Inv X pins σ H2 s2) (ha:s.heap.objs.size<=a) (hn:H2 a=none) (new:ObjOk X.prog X.w (upd H2 a o) s2.heap a o):Inv X pins σ (upd H2 a o) s2:=by
 refine ⟨I2.ok,I2.os,I2.bare,?_,I2.loc,I2.cell,?_,fun n c e=>?_,fun p hp=>?_,fun q u e=>?_,I2.len⟩
 . refine ⟨I2.base.keep,I2.base.slot,fun q oq e n hx=>?_,I2.base.there,fun q xs e=>?_,fun q oq u e=>?_,fun q ps e=>?_⟩
   . rw [aR (aE (aM (aM (aw e) I.sz) ha))];exact I2.base.free q oq e n hx
   . have e':=I2.base.tups q xs e;rw [aR (fun z=>by rw [z,hn] at e';cases e')];exact e'
   . have e':=I2.base.frzs q oq u e;rw [aR (fun z=>by rw [z,hn] at e';cases e')];exact e'
   . obtain ⟨more,e'⟩:=I2.base.tbls q ps e;exact ⟨more,by rw [aR (fun z=>by rw [z,hn] at e';cases e')];exact e'⟩
 . rw [aR (aE (aM I.lt ha))];exact I2.free
 . obtain ⟨vv,oc,ho,_⟩:=I.cell n c e;rw [aR (aE (aM (aw ho) ha))];exact I2.freeC n c e
 . obtain ⟨k1,k2,k3⟩:=I.pin p hp;rw [aR (aE (aM (aw k1) ha))];exact I2.pin p hp
 . by_cases hq:q=a
   . subst hq;rw [aq] at e;cases e;exact new
   . rw [aR hq] at e;refine (I2.hok q u e).stay (fun _ _ _ e'=>e') (fun q' e'=>?_) fun q' xs e'=>?_
     . rw [aR (fun z=>by rw [z,hn] at e';cases e')];exact e'
     . rw [aR (fun z=>by rw [z,hn] at e';cases e')];exact e'
end
theorem Vb:typeLookup (.type "list_reverseiterator") "__len__"=pure none:=by rw [typeLookup_type,builtinLookup_eq_fast];kernel_rfl
theorem a8a:typeLookup (.type "list_reverseiterator") "__length_hint__"=pure (some (.builtin "list_reverseiterator.__length_hint__")):=by rw [typeLookup_type,builtinLookup_eq_fast];kernel_rfl
section
variable {P:Program} {w:World} {A:Around} {E:Value->Shared->Prop} {s:Shared}
theorem aTa {it:Addr} {Q:Bool->Shared->Prop} (hT:s.TypeIs (.ref it) "list_reverseiterator") (h:Q false s):wpAny (model P w) A (Builtin.List.listLengthHint (.ref it)) Q E s:=by
 unfold Builtin.List.listLengthHint;refine aa (jI hT Vb ?_);refine fm (fun hab=>absurd hab (by decide)) (fun _=>?_);refine fm (fun hab=>absurd hab (by decide)) (fun _=>?_);refine aa (jI hT a8a ?_);generalize hid:("list_reverseiterator.__length_hint__":String)=id0
 wp_delta
 rw [show splitId id0=some ("list_reverseiterator","__length_hint__") from by subst hid;decide +kernel];subst hid;refine aa (dQ (T:="list_reverseiterator") (b:=true) hT (by rw [isSubtype_type];kernel_rfl) ?_);refine fm (fun hab=>absurd hab (by decide)) (fun _=>?_);refine fm (fun _=>?_) (fun hab=>absurd (by decide +kernel) hab);refine fm (fun hab=>absurd hab (by decide +kernel)) (fun _=>?_);exact ao h
end
end L2
namespace L2
open PySem PySem.Spec PyProof.Rows
def VW (I l:Addr) (its:Array Value) (i:Nat) (h:Heap):Prop:=i<=its.size/\h.IsRevIter I l ((its.size:Int) - 1 - (i:Int))/\h.IsList l its
def VM (its:Array Value) (i:Nat) (v:Value):Prop:=its[its.size - 1 - i]?=some v
section
variable {P:Program} {w:World} {A:Around} {E:Value->Shared->Prop} {s:Shared} {R:Result->Shared->Prop}
theorem UK (hh:A.handled=none) {I l S:Addr} {its:Array Value} {res:Value} {c0:Nat} (st:VW I l its 0 s.heap) (ne:l≠I) (n1:S≠I) (n2:S≠l) (hz:its.size<=sizeLine)
   (hS:s.heap.get? S=some { cls:=.type "list",data:=.seq #[] c0 })
   (hR:∀ s' acc c',Moved [S,I] (fun a b=>b=a) s s'->s'.heap.get? S=some { cls:=.type "list",dict:=none,data:=.seq acc c',slots:=#[] }->ItemsOf (VM its) acc its.size->R (.ok (.ret res)) s') :
   wpAny (model P w) A.in1 (Builtin.List.listExtendWith (.ref S) (.ref I) res) (fun fn s'=>match fn with|.done f=>R (.ok f) s'|.again c'=>c'.quiet=true/\codeAny (model P w) A c' R s') (fun e s'=>R (.error e) s') s:=by
 have W:=(Walks.listRev (prog:=P) (w:=w) (A:=A.in1) hh I l ne its).toS;have hT:s.TypeIs (.ref I) "list_reverseiterator":=st.2.1.typeIs;unfold Builtin.List.listExtendWith;refine aa (jv hT ?_);have t1:Builtin.List.listSameRef (.ref S) (.ref I)=false:=by simp [Builtin.List.listSameRef,n1]
 have t2:(Value.type "list_reverseiterator" == Value.type "list")=false:=by decide
 have t3:(Value.type "list_reverseiterator" == Value.type "tuple")=false:=by decide
 simp only [t1,t2,t3,Bool.or_false,bB,if_false];refine aa (j1 st.2.1 ?_);refine aa (bD (aTa hT ?_));refine fm (fun hab=>absurd hab (by decide +kernel)) (fun _=>?_);refine ao ⟨plainId_quiet F.plain_extend_loop _,codeAny_extend_loopS W hz S (by simp [n1,n2]) res its.size 0 _ #[] c0 rfl (bi _) st hS (ItemsOf.nil _) fun s' acc c' hm hS' hacc=>?_⟩;exact hR s' acc c' hm hS' hacc
theorem Op (hh:A.handled=none) {I l:Addr} {its:Array Value} {Q:Value->Shared->Prop} (st:VW I l its 0 s.heap) (ne:l≠I) (hz:its.size<=sizeLine)
   (hQ:∀ (s':Shared) (acc:Array Value) (c':Nat),s'.os=s.os->s'.gens=s.gens->s'.drawn=s.drawn->(∀ b o,b≠I->s.heap.get? b=some o->s'.heap.get? b=some o)->s'.heap.get? s.heap.objs.size=some { cls:=.type "list",dict:=none,data:=.seq acc c',slots:=#[] }->ItemsOf (VM its) acc its.size->Q (.ref s.heap.objs.size) s') :
   wpAny (model P w) A (call (.type "list") [.ref I]) Q E s:=by
 obtain ⟨oI,hoI,_⟩:=id st.2.1;obtain ⟨ol,hol,_⟩:=id st.2.2;have n1:s.heap.objs.size≠I:=dI (aw hoI);have n2:s.heap.objs.size≠l:=dI (aw hol);refine callType_codes (Q₁:=fun obj s₁=>obj=.ref s.heap.objs.size/\s₁={ s with heap:=s.heap.push { cls:=.type "list",data:=.seq #[] } }) F.called_list (F.typeCall_list_1 _) F.entry_list_init (code_list_new _ ⟨rfl,rfl⟩) fun obj s₁ h₁=>?_;obtain ⟨rfl,rfl⟩:=h₁;have b1:(s.heap.push { cls:=.type "list",data:=.seq #[] }).get? s.heap.objs.size=some { cls:=.type "list",data:=.seq #[] }:=aJ _ rfl;refine ⟨⟨_,b1,rfl⟩,F.args_list_init_2 _ _,?_⟩;show wpAny (model P w) A.in1.in1 (do let old <- Builtin.List.listItems (.ref s.heap.objs.size);Builtin.List.listUpdate (.ref s.heap.objs.size) (fun _=>#[]);letGo old.toList.reverse;Builtin.List.listExtendWith (.ref s.heap.objs.size) (.ref I) .none) _ _ _;refine aa ?_;unfold Builtin.List.listItems;refine aa (dG b1 rfl (ao ?_));show wpAny (model P w) A.in1.in1 (updateSeq s.heap.objs.size (fun _=>#[]) >>= fun _=>letGo (#[]:Array Value).toList.reverse >>= fun _=>Builtin.List.listExtendWith (.ref s.heap.objs.size) (.ref I) .none) _ _ _;refine aa (wpAny_updateSeq b1 rfl ?_);have b2:=bI (Obj.mapSeq (fun _=>(#[]:Array Value))) b1 rfl;have kk:∀ b o,s.heap.get? b=some o->((s.heap.push { cls:=.type "list",data:=.seq #[] }).update s.heap.objs.size (Obj.mapSeq (fun _=>(#[]:Array Value)))).get? b=some o :=
   fun b o e=>(bR _ _ (dI (aw e))).trans (ap _ e)
 refine aa (jY ?_);refine UK (A:=A.in1) hh (I:=I) (l:=l) (its:=its) ⟨st.1,st.2.1.at fun o e=>kk _ o e,st.2.2.at fun o e=>kk _ o e⟩ ne n1 n2 hz b2 fun s' acc c' hm hS' hacc=>?_;refine ⟨rfl,hQ s' acc c' hm.os hm.gens hm.drawn (fun b o hb e=>hm.heap b o (fun z=>?_) (kk b o e)) hS' hacc⟩;simp only [az,df,or_false] at z;rcases z with z|z
 . exact absurd (aw e) (by rw [z];exact dl _)
 . exact hb z
end
theorem Wb {its acc:List Value} (h:ItemsOf (VM its.toArray) acc.toArray its.toArray.size):acc=its.reverse:=by
 obtain ⟨h1,h2⟩:=h;simp only [aG] at h1;refine eO fun j=>?_;by_cases hj:j<acc.length
 . have q:=h2 j acc[j] (by simp [hj]);unfold VM at q;rw [aD hj,dz (by omega)];simp only [aG,List.getElem?_toArray] at q;exact q.symm
 . rw [bJ (by omega),bJ (by rw [bj];omega)]
section
variable {X:Cx} {e:Expr} {te:TE} {p1 p2 pos pos2:Pos}
def bAa (K:PySem.W.Frag) (te:TE):TE:=fun σ H Q=>te σ H fun x H1=>∃ a ys,x=.ref a/\SqL K H1 a ys/\∀ l,H1 l=none->Q (.ref l) (upd H1 l (.lst ys.reverse))
theorem cBa {pins:List (Addr × Obj)} {s:Shared} {σ:St} {H:Hp} {R:List Value->Shared->Prop} (hg:Gl X "reversed") (hm:X.mg "reversed"=none) (he:PE X e te) (I:Inv X pins σ H s) {Q':V->Hp->Prop} (h:te σ H Q')
   (h1:starEach [.Call (.Name "reversed" p2) [e] [] pos2] X.env=[(false,eval (.Call (.Name "reversed" p2) [e] [] pos2) X.env)]) (h2:starEach [e] X.env=[(false,eval e X.env)])
   (k:∀ s1 H1 x a ys (its:List Value),Inv X pins σ H1 s1->Q' x H1->x=.ref a->SqL X.K H1 a ys->Vals ys its->VW s1.heap.objs.size a its.toArray 0 (s1.heap.push (revObj a ((its.toArray.size:Int) - 1)))->a≠s1.heap.objs.size->its.toArray.size<=sizeLine ->
     R [.ref s1.heap.objs.size] { s1 with heap:=s1.heap.push (revObj a ((its.toArray.size:Int) - 1)) })
   (sq:∀ x H1,Q' x H1->∃ a ys,x=.ref a/\SqL X.K H1 a ys) :
   wpAny (model X.prog X.w) X.A (spliced (backTo pos (starEach [.Call (.Name "reversed" p2) [e] [] pos2] X.env))) R X.xe s:=by
 rw [h1];show wpAny _ _ (spliced ((false,eval (.Call (.Name "reversed" p2) [e] [] pos2) X.env)::backTo pos [])) _ _ s;refine fC ?_;refine Call_ (pS I hg hm boot_reversed (bQ ?_ h2 rfl));rw [h2];show wpAny _ _ (spliced ((false,eval e X.env)::backTo pos2 [])) _ _ s;refine fC (dg (he pins s σ H _ I h) fun u s1 x H1 I1 r1 q1=>fQ ?_);obtain ⟨a,ys,ex,sa⟩:=sq x H1 q1;subst ex;cases r1;obtain ⟨its,rv,pl,hz⟩:=I1.list sa;have ne:a≠s1.heap.objs.size:=aE pl.lt;refine call_reversed_list pl.isList (fQ ?_);refine k s1 H1 _ a ys its I1 q1 rfl sa rv ⟨bi _,⟨_,aJ _ rfl,rfl,?_⟩,pl.isList.push _⟩ ne (by rw [aG,<- rv.length];exact hz);simp [revObj]
theorem cSa (hc:X.calm=true) (hg:Gl X "reversed") (hm:X.mg "reversed"=none) (hg1:Gl X "list") (hm1:X.mg "list"=none) (he:PE X e te)
   (h1:starEach [.Call (.Name "reversed" p2) [e] [] pos2] X.env=[(false,eval (.Call (.Name "reversed" p2) [e] [] pos2) X.env)]:=by rfl) (h2:starEach [e] X.env=[(false,eval e X.env)]:=by rfl) :
   PE X (.Call (.Name "list" p1) [.Call (.Name "reversed" p2) [e] [] pos2] [] pos) (bAa X.K te):=by
 intro pins s σ H Q I h;refine Call_ (pS I hg1 hm1 boot_list (bQ ?_ h1 rfl));refine cBa hg hm he I h h1 h2 (fun s1 H1 x a ys its I1 q1 ex sa rv st ne hz=>?_) fun x H1 ⟨a,ys,ex,sa,_⟩=>⟨a,ys,ex,sa⟩;obtain ⟨a',ys',ex',sa',q⟩:=q1;rw [ex] at ex';cases ex';have ey:=I1.list_inj sa sa';subst ey;refine Op (I1.ok.hd hc) st ne hz fun s' acc c' e1 e2 e3 k5 e5 hacc=>?_;obtain ⟨hs,gs,ds,ts,os'⟩:=s';simp only at e1 e2 e3 k5 e5;subst e1 e2 e3;obtain ⟨al,rfl⟩:∃ al:List Value,acc=al.toArray:=⟨acc.toList,by simp⟩;have er:=Wb hacc;subst er;have kk:∀ b u,s1.heap.get? b=some u->hs.get? b=some u:=fun b u eb=>k5 b u (aE (aw eb)) (ap _ eb);have I2:Inv X pins σ H1 { s1 with heap:=hs,toks:=ts }:=I1.kept kk;have sz:(s1.heap.push (revObj a ((its.toArray.size:Int) - 1))).objs.size=s1.heap.objs.size+1:=cm ..;rw [sz] at e5;show EP X pins σ Q (.ref (s1.heap.push (revObj a ((its.toArray.size:Int) - 1))).objs.size) _;rw [sz];have nH:H1 (s1.heap.objs.size+1)=none:=I1.hok.fresh (dE _);refine ⟨.ref _,_,I1.track (o:=.lst ys.reverse) I2 (dE _) nH ⟨?_,its.reverse,c',rv.reverse,e5⟩,rfl,q _ nH⟩;rw [bj,rv.length]
 simpa using hz
end
end L2
namespace L2
open PySem PySem.Spec PyProof.Rows
theorem mi {a b:Nat} (h:a<b\/b<a):a≠b:=by omega
theorem dWa (n a b:Nat) (h1:a<n) (h2:b<n):ZAp (n+4) (n+2) (n+3) n (n+1) a b :=
 ⟨mi (by omega),mi (by omega),mi (by omega),mi (by omega),mi (by omega),mi (by omega),mi (by omega),mi (by omega),mi (by omega),mi (by omega),⟨mi (by omega),mi (by omega),mi (by omega),mi (by omega)⟩,⟨mi (by omega),mi (by omega),mi (by omega),mi (by omega)⟩⟩
section
variable {X:Cx}
def Zv (K:PySem.W.Frag) (c d:Bool) (ta:TA):TI:=fun σ H R=>ta σ H fun vs H1=>∃ a b,vs=[.ref a,.ref b]/\(∃ xs,SqX K c H1 a xs)/\(∃ ys,SqX K d H1 b ys)/\R (Itz K c d a b) H1
theorem dpa {elts:List Expr} {x1} {tpos:Pos} {ea eb:Expr} {ta:TA} {p pos:Pos} (c d:Bool) (hg:Gl X "zip") (hm:X.mg "zip"=none) (ha:PA X [ea,eb] ta)
   (hs:starEach [ea,eb] X.env=[(false,eval ea X.env),(false,eval eb X.env)]:=by rfl) (hs2:starEach [eb] X.env=[(false,eval eb X.env)]:=by rfl) :
   PI X (.Tuple elts x1 tpos) (.Call (.Name "zip" p) [ea,eb] [] pos) (Zv X.K c d ta):=by
 intro pins s σ H R I h;refine Call_ (pS I hg hm boot_zip (bQ (zf (ha pos pins s σ H _ I h) fun us s1 vs H1 I1 r1 q1=>?_) (by rw [hs,hs2]) (by rw [hs2];rfl)));obtain ⟨a,b,e,⟨xs,sa⟩,⟨ys,sb⟩,q⟩:=q1;subst e;obtain ⟨u,v,rfl,ru,rv⟩:=VB r1;cases ru;cases rv;obtain ⟨us,r1,q1⟩:=I1.sqX sa;obtain ⟨vs,r2,q2⟩:=I1.sqX sb;obtain ⟨oa,hoa⟩:=yt a c _ _ q1;obtain ⟨ob,hob⟩:=yt b d _ _ q2;have la:=aw hoa;have lb:=aw hob;refine ZG (kZ a c) (kZ b d) (yt b d) q1 q2 (fun h' w1 w2 w3 w4 w5 w6=>?_) (FG a c) (FG b d);refine wpAny_pyIter_zip w1 ?_;have D:=dWa s1.heap.objs.size a b la lb;refine ⟨_,[s1.heap.objs.size+4,s1.heap.objs.size+2,s1.heap.objs.size+3,s1.heap.objs.size,s1.heap.objs.size+1],_,_,H1,rfl,I1.kept (t':=s1.toks) w6,YW c d a b _ _ _ _ _ D,⟨w1,w2,⟨_,_,w3⟩,w4,w5⟩,fun q hq=>?_,q⟩;have hle:s1.heap.objs.size<=q:=by
   simp only [az,df,or_false] at hq;rcases hq with rfl|rfl|rfl|rfl|rfl
   . exact jl _ 4
   . exact jl _ 2
   . exact jl _ 3
   . exact aA _
   . exact jl _ 1
 exact I1.fpOk hle (I1.hok.fresh hle)
end
end L2
namespace Pb
structure Road where
 a:Int
 b:Int
 t:Int
 u:Int
 deriving DecidableEq
def Wh (m:Int) (rs:List Road):Prop:=∀ S:Int->Prop,S 0->(∀ r∈rs,(S r.a↔S r.b))->∀ v,0<=v->v<m->S v
structure RoadOk (m:Int) (r:Road):Prop where
 a0:0<=r.a
 a1:r.a<m
 b0:0<=r.b
 b1:r.b<m
 ne:r.a≠r.b
 t0:2<=r.t
 t1:r.t<=1000000
 u0:2<=r.u
 u1:r.u<=1000000
structure Good (m:Int) (rs:List Road):Prop where
 m1:1<=m
 m24:m<=24
 len:(rs.length:Int)=m - 1
 ok:∀ r∈rs,RoadOk m r
 jn:Wh m rs
theorem wo {α:Type} [DecidableEq α]:∀ {l l':List α},l.Nodup->(∀ x∈l,x∈l')->l.length<=l'.length
 | [],_,_,_=>bi _
 | x::r,l',hn,hs=>by
   obtain ⟨h1,h2⟩:=ba.mp hn;have hx:x∈l':=hs x aO;have:r.length<=(l'.erase x).length:=wo h2 fun y hy=>(pp (fun (e:y=x)=>h1 (by rw [<- e];exact hy))).mpr (hs y (aL _ hy));rw [List.length_erase_of_mem hx] at this;have hp:0<l'.length:=List.length_pos_of_mem hx;rw [aQ];omega
def below (n:Nat):List Int:=(List.range n).map fun (k:Nat)=>(k:Int)
theorem j4 {n:Nat} {v:Int}:v∈below n↔0<=v/\v<n:=by
 unfold below;rw [cu]
 constructor
 . rintro ⟨k,hk,rfl⟩;have:=cN.mp hk;omega
 . rintro ⟨h0,h1⟩;exact ⟨v.toNat,cN.mpr (by omega),by omega⟩
theorem eD (n:Nat):(below n).length=n:=by simp [below]
theorem qb (n:Nat):(below n).Nodup:=by
 unfold below;refine List.Pairwise.map _ (fun a b h=>?_) (List.nodup_range (n:=n));intro e;exact h (by omega)
theorem gX {m:Int} {l:List Int} (hm:0<=m) (hn:l.Nodup) (h:∀ x∈l,0<=x/\x<m):(l.length:Int)<=m:=by
 have:=wo (l':=below m.toNat) hn fun x hx=>j4.mpr ⟨(h x hx).1,by have:=(h x hx).2;omega⟩;rw [eD] at this;omega
theorem Yq {m:Int} {l:List Int} (hm:0<=m) (h:∀ v,0<=v->v<m->v∈l):m<=(l.length:Int):=by
 have:=wo (l:=below m.toNat) (l':=l) (qb _) fun x hx=>by
   obtain ⟨h0,h1⟩:=j4.mp hx;exact h x h0 (by omega)
 rw [eD] at this;omega
def AB (p:Int) (r:Road):List Int:=(if r.a=p then [r.b] else [])++(if r.b=p then [r.a] else [])
def gn (rs:List Road) (p:Int):List Int:=rs.flatMap (AB p)
theorem yW {rs:List Road} {p e:Int}:e∈gn rs p↔∃ r∈rs,(r.a=p/\r.b=e)\/(r.b=p/\r.a=e):=by
 unfold gn AB;rw [ji]
 constructor
 . rintro ⟨r,hr,h⟩;refine ⟨r,hr,?_⟩;rcases aY.mp h with h|h
   . by_cases c:r.a=p
     . rw [am c] at h;exact .inl ⟨c,(aI.mp h).symm⟩
     . rw [aj c] at h;cases h
   . by_cases c:r.b=p
     . rw [am c] at h;exact .inr ⟨c,(aI.mp h).symm⟩
     . rw [aj c] at h;cases h
 . rintro ⟨r,hr,h⟩;refine ⟨r,hr,aY.mpr ?_⟩;rcases h with ⟨h1,h2⟩|⟨h1,h2⟩
   . exact .inl (by rw [am h1,h2];exact aI.mpr rfl)
   . exact .inr (by rw [am h1,h2];exact aI.mpr rfl)
theorem Po (rs:List Road) (p:Int):(gn rs p).length<=2*rs.length:=by
 unfold gn
 induction rs with
 | nil=>simp
 | cons r rs ih =>
   rw [dP,au,aQ];have:(AB p r).length<=2:=by
     unfold AB;rw [au];by_cases c:r.a=p <;> by_cases d:r.b=p <;> simp [c,d]
   omega
theorem Az (rs:List Road) (r:Road) (p:Int):gn (rs++[r]) p=gn rs p++AB p r:=by
 unfold gn;rw [qO];simp
def J9 (c:List Int × List Int) (e:Int):List Int × List Int:=if e∈c.1 then c else (c.1++[e],c.2++[e])
structure JInv (m:Int) (rs:List Road) (ks ws:List Int):Prop where
 nd:ks.Nodup
 zero:0∈ks
 rng:∀ k∈ks,0<=k/\k<m
 sub:∀ w∈ws,w∈ks
 cl:∀ k∈ks,k ∉ ws->∀ e∈gn rs k,e∈ks
 wl:ws.length<=ks.length
theorem U0 {l:List Int} {e:Int} (h:l.Nodup) (he:e ∉ l):(l++[e]).Nodup:=by
 rw [gI];refine ⟨h,by simp,fun a ha b hb=>?_⟩;rw [aI.mp hb];exact fun z=>he (z ▸ ha)
structure JMid (m:Int) (rs:List Road) (p:Int) (es ks ws ks0:List Int) (n0:Nat):Prop where
 nd:ks.Nodup
 zero:0∈ks
 rng:∀ k∈ks,0<=k/\k<m
 sub:∀ w∈ws,w∈ks
 cl:∀ k∈ks,k ∉ ws->k=p\/∀ e∈gn rs k,e∈ks
 seen:∀ e∈es,e∈ks
 pin:p∈ks
 mu:ks.length+n0=ks0.length+ws.length
 up:ks0.length<=ks.length
 wl:ws.length<=ks.length
theorem JMid.start {m:Int} {rs:List Road} {ks ws:List Int} {p:Int} (h:JInv m rs ks (ws++[p])):JMid m rs p [] ks ws ks ws.length where
 nd:=h.nd
 zero:=h.zero
 rng:=h.rng
 sub:=fun w hw=>h.sub w (bp _ hw)
 cl:=fun k hk hw=>by
   by_cases e:k=p
   . exact .inl e
   . exact .inr (h.cl k hk fun z=>by
       rcases aY.mp z with z|z
       . exact hw z
       . exact e (aI.mp z))
 seen:=fun e he=>by cases he
 pin:=h.sub p (aV _ (aI.mpr rfl))
 mu:=rfl
 up:=aA _
 wl:=by have:=h.wl;rw [au] at this;simp at this;omega
theorem JMid.step {m:Int} {rs:List Road} {p:Int} {es ks ws ks0:List Int} {n0:Nat} {e:Int} (h:JMid m rs p es ks ws ks0 n0) (h0:0<=e) (h1:e<m) :
   JMid m rs p (es++[e]) (J9 (ks,ws) e).1 (J9 (ks,ws) e).2 ks0 n0:=by
 unfold J9;by_cases c:e∈ks
 . rw [am c];refine ⟨h.nd,h.zero,h.rng,h.sub,h.cl,fun x hx=>?_,h.pin,h.mu,h.up,h.wl⟩;rcases aY.mp hx with z|z
   . exact h.seen x z
   . rw [aI.mp z];exact c
 . rw [aj c];dsimp only;refine ⟨U0 h.nd c,bp _ h.zero,fun k hk=>?_,fun w hw=>?_,fun k hk hw=>?_,fun x hx=>?_,bp _ h.pin,?_,by have:=h.up;simp;omega,by have:=h.wl;simp;exact this⟩
   . rcases aY.mp hk with z|z
     . exact h.rng k z
     . rw [aI.mp z];exact ⟨h0,h1⟩
   . rcases aY.mp hw with z|z
     . exact bp _ (h.sub w z)
     . exact aV _ z
   . rcases aY.mp hk with z|z
     . rcases h.cl k z fun y=>hw (bp _ y) with y|y
       . exact .inl y
       . exact .inr fun x hx=>bp _ (y x hx)
     . exact absurd (aV _ z) hw
   . rcases aY.mp hx with z|z
     . exact bp _ (h.seen x z)
     . exact aV _ z
   . have:=h.mu;simp only [au,aQ,f7];omega
theorem JMid.done {m:Int} {rs:List Road} {p:Int} {ks ws ks0:List Int} {n0:Nat} (h:JMid m rs p (gn rs p) ks ws ks0 n0):JInv m rs ks ws where
 nd:=h.nd
 zero:=h.zero
 rng:=h.rng
 sub:=h.sub
 cl:=fun k hk hw=>by
   rcases h.cl k hk hw with z|z
   . rw [z];exact h.seen
   . exact z
 wl:=h.wl
theorem JInv.start {m:Int} {rs:List Road} (hm:1<=m):JInv m rs [0] [0] where
 nd:=by simp
 zero:=by simp
 rng:=fun k hk=>by rw [aI.mp hk];omega
 sub:=fun w hw=>hw
 cl:=fun k hk hw=>absurd hk hw
 wl:=by simp
theorem JInv.all {m:Int} {rs:List Road} {ks:List Int} (h:JInv m rs ks []) (hm:1<=m) (j:Wh m rs):(ks.length:Int)=m:=by
 have up:=gX (by omega) h.nd h.rng;have:∀ v,0<=v->v<m->v∈ks:=j (fun v=>v∈ks) h.zero fun r hr=>by
   constructor
   . intro ha;exact h.cl r.a ha (by simp) r.b (yW.mpr ⟨r,hr,.inl ⟨rfl,rfl⟩⟩)
   . intro hb;exact h.cl r.b hb (by simp) r.a (yW.mpr ⟨r,hr,.inr ⟨rfl,rfl⟩⟩)
 have:=Yq (by omega) this;omega
theorem Zn {m:Int} {rs:List Road} (h:∀ r∈rs,RoadOk m r) {p e:Int} (he:e∈gn rs p):0<=e/\e<m:=by
 obtain ⟨r,hr,z⟩:=yW.mp he;have k:=h r hr;rcases z with ⟨_,rfl⟩|⟨_,rfl⟩
 . exact ⟨k.b0,k.b1⟩
 . exact ⟨k.a0,k.a1⟩
structure Row where
 k:Int
 un:Int
 t:Int
 u:Int
 sw:Int
 sp:Int
structure RowOk (r:Row):Prop where
 u0:0<=r.un
 u1:r.un<r.k
 t0:2<=r.t
 t1:r.t<=1000000
 v0:2<=r.u
 v1:r.u<=1000000
 s0:0<=r.sp
 s1:r.sp<r.k
structure Rows (n:Nat) (rows:List Row):Prop where
 len:rows.length=n
 ok:∀ (i:Nat) (r:Row),rows[i]?=some r->r.k=(i:Int)+1/\RowOk r
structure Labels (n:Nat) (ls:List Int):Prop where
 len:ls.length=n
 nd:ls.Nodup
 all:∀ v:Int,0<=v->v<n->v∈ls
 rng:∀ v∈ls,0<=v/\v<n
theorem K3 {α:Type} {l:List α} {k:Nat} {x y:α}:y∈l.take k++x::l.drop k↔y=x\/y∈l:=by
 rw [aY,az]
 constructor
 . rintro (h|h|h)
   . exact .inr (List.mem_of_mem_take h)
   . exact .inl h
   . exact .inr (pi h)
 . rintro (h|h)
   . exact .inr (.inl h)
   . rw [<- gP k l] at h;rcases aY.mp h with z|z
     . exact .inl z
     . exact .inr (.inr z)
def oP (ls:List Int) (r:Row):Road:=if r.sw=1 then ⟨ls.getD r.un.toNat 0,ls.getD r.k.toNat 0,r.t,r.u⟩ else ⟨ls.getD r.k.toNat 0,ls.getD r.un.toNat 0,r.t,r.u⟩
structure Put (ls:List Int) (rows:List Row) (rs:List Road):Prop where
 len:rs.length=rows.length
 of:∀ r∈rs,∃ w∈rows,r=oP ls w
 to:∀ w∈rows,oP ls w∈rs
theorem Put.nil (ls:List Int):Put ls [] []:=⟨rfl,fun r h=>(by cases h),fun r h=>(by cases h)⟩
theorem Put.step {ls:List Int} {rows:List Row} {rs:List Road} (h:Put ls rows rs) (w:Row) (k:Nat):Put ls (rows++[w]) (rs.take k++oP ls w::rs.drop k) where
 len:=by
   rw [au,aQ,bo,cV,au,h.len];simp;omega
 of:=fun r hr=>by
   rcases K3.mp hr with z|z
   . exact ⟨w,by simp,z⟩
   . obtain ⟨w',hw,e⟩:=h.of r z;exact ⟨w',bp _ hw,e⟩
 to:=fun w' hw=>by
   rw [K3];rcases aY.mp hw with z|z
   . exact .inr (h.to w' z)
   . exact .inl (by rw [aI.mp z])
theorem GN {ls:List Int} {n:Nat} (h:Labels n ls) {i:Nat} (hi:i<n):ls[i]?=some (ls.getD i 0):=by
 have:i<ls.length:=by rw [h.len];exact hi
 simp [List.getD,aD this]
theorem Qn {ls:List Int} {n:Nat} (h:Labels n ls) {i:Nat} (hi:i<n):ls.getD i 0∈ls:=bd (GN h hi)
theorem Zg {ls:List Int} {n:Nat} (h:Labels n ls) {i j:Nat} (hi:i<n) (hj:j<n) (e:ls.getD i 0=ls.getD j 0):i=j:=by
 have h1:i<ls.length:=by rw [h.len];exact hi
 have h2:j<ls.length:=by rw [h.len];exact hj
 have e1:=GN h hi;have e2:=GN h hj;rw [e] at e1;have e3:ls[i]'h1=ls[j]'h2:=by
   rw [aD h1] at e1;rw [aD h2] at e2;exact bh (e1.trans e2.symm)
 have nd:=ip.mp h.nd;rcases Nat.lt_trichotomy i j with z|z|z
 . exact absurd e3 (nd i j h1 h2 z)
 . exact z
 . exact absurd e3.symm (nd j i h2 h1 z)
theorem cga {n:Nat} {ls:List Int} {rows:List Row} {rs:List Road} (h1:1<=n) (h24:n<=24) (L:Labels n ls) (W:Rows (n - 1) rows) (P:Put ls rows rs):Good n rs where
 m1:=by omega
 m24:=by omega
 len:=by rw [P.len,W.len];omega
 ok:=fun r hr=>by
   obtain ⟨w,hw,rfl⟩:=P.of r hr;obtain ⟨i,hi⟩:=cG hw;obtain ⟨ek,ok⟩:=W.ok i w hi;have hil:i<rows.length:=(aB.mp hi).1;rw [W.len] at hil;have hk:w.k.toNat<n:=by omega
   have hu:w.un.toNat<n:=by have:=ok.u0;have:=ok.u1;omega
   have r1:=L.rng _ (Qn L hk);have r2:=L.rng _ (Qn L hu);have ne:ls.getD w.k.toNat 0≠ls.getD w.un.toNat 0:=fun e=>by
     have:=Zg L hk hu e;have:=ok.u0;have:=ok.u1;omega
   unfold oP;by_cases c:w.sw=1
   . rw [am c];exact ⟨r2.1,r2.2,r1.1,r1.2,ne.symm,ok.t0,ok.t1,ok.v0,ok.v1⟩
   . rw [aj c];exact ⟨r1.1,r1.2,r2.1,r2.2,ne,ok.t0,ok.t1,ok.v0,ok.v1⟩
 jn:=by
   intro S s0 hS;have key:∀ i:Nat,i<n->(S (ls.getD i 0)↔S (ls.getD 0 0)):=by
     intro i
     induction i using Nat.strongRecOn with
     | ind i ih =>
       intro hi;by_cases z:i=0
       . rw [z]
       . have hil:i - 1<rows.length:=(by rw [W.len];omega);obtain ⟨ek,ok⟩:=W.ok (i - 1) rows[i - 1] (aD hil);have hm:=P.to rows[i - 1] (hV hil);have hr:=hS _ hm;have hk:(rows[i - 1]).k.toNat=i:=(by omega);have hu:(rows[i - 1]).un.toNat<i:=(by have:=ok.u0;have:=ok.u1;omega);have hh:=ih _ hu (by omega);unfold oP at hr;rw [hk] at hr;by_cases c:(rows[i - 1]).sw=1
         . rw [am c] at hr;exact hr.symm.trans hh
         . rw [aj c] at hr;exact hr.trans hh
   have at_:∀ v,0<=v->v<(n:Int)->∃ i,i<n/\ls.getD i 0=v:=fun v h0 h1=>by
     obtain ⟨i,hi⟩:=cG (L.all v h0 h1);have hil:i<n:=(by have:=(aB.mp hi).1;rw [L.len] at this;exact this);refine ⟨i,hil,?_⟩;have:=GN L hil;rw [hi] at this;exact (bh this).symm
   intro v h0 hv;obtain ⟨i,hi,rfl⟩:=at_ v h0 hv;obtain ⟨j,hj,ej⟩:=at_ 0 (by omega) (by omega);refine (key i hi).mpr ((key j hj).mp ?_);rw [ej];exact s0
end Pb
namespace Pb
def Adj (rs:List Road) (a b:Int):Prop:=∃ x∈rs,(x.a=a/\x.b=b)\/(x.b=a/\x.a=b)
theorem Adj.symm {rs:List Road} {a b:Int} (h:Adj rs a b):Adj rs b a:=by
 obtain ⟨x,hx,h⟩:=h;rcases h with ⟨h1,h2⟩|⟨h1,h2⟩
 . exact ⟨x,hx,.inr ⟨h2,h1⟩⟩
 . exact ⟨x,hx,.inl ⟨h2,h1⟩⟩
theorem IG {rs:List Road} {a b:Int}:b∈gn rs a↔Adj rs a b:=yW
theorem Good.adj {m:Int} {rs:List Road} (g:Good m rs) {a b:Int} (h:Adj rs a b):(0<=a/\a<m)/\(0<=b/\b<m)/\a≠b:=by
 obtain ⟨x,hx,h⟩:=h;have k:=g.ok x hx;rcases h with ⟨h1,h2⟩|⟨h1,h2⟩
 . subst h1 h2;exact ⟨⟨k.a0,k.a1⟩,⟨k.b0,k.b1⟩,k.ne⟩
 . subst h1 h2;exact ⟨⟨k.b0,k.b1⟩,⟨k.a0,k.a1⟩,k.ne.symm⟩
theorem Good.from {m:Int} {rs:List Road} (g:Good m rs) {r:Int} (h0:0<=r) (h1:r<m) (S:Int->Prop) (sr:S r) (hS:∀ x∈rs,(S x.a↔S x.b)):∀ v,0<=v->v<m->S v:=by
 have key:∀ v,0<=v->v<m->(S v↔S 0):=g.jn (fun v=>S v↔S 0) Iff.rfl fun x hx=>by
   have:=hS x hx;exact ⟨fun h=>this.symm.trans h,fun h=>this.trans h⟩
 intro v a b;exact (key v a b).mpr ((key r h0 h1).mp sr)
inductive Dist (rs:List Road) (r:Int):Nat->Int->Prop
 | zero:Dist rs r 0 r
 | step {n:Nat} {u v:Int}:Dist rs r n u->Adj rs u v->Dist rs r (n+1) v
theorem bIa {P:Nat->Prop}:∀ n,P n->∃ k,P k/\∀ j,j<k->¬ P j:=by
 intro n
 induction n using Nat.strongRecOn with
 | ind n ih =>
   intro h;by_cases z:∃ j,j<n/\P j
   . obtain ⟨j,hj,hp⟩:=z;exact ih j hj hp
   . exact ⟨n,h,fun j hj hp=>z ⟨j,hj,hp⟩⟩
structure Rooted (m:Int) (rs:List Road) (r:Int) (par:Int->Int) (dep:Int->Nat):Prop where
 root:dep r=0
 up:∀ v,0<=v->v<m->v≠r->(0<=par v/\par v<m)/\Adj rs v (par v)/\dep (par v)+1=dep v
 road:∀ x∈rs,(x.a≠r/\par x.a=x.b)\/(x.b≠r/\par x.b=x.a)
 one:(rs.map fun x=>if x.a≠r/\par x.a=x.b then x.a else x.b).Nodup
theorem cpa {n:Nat} {l:List Nat} (hn:l.Nodup) (hl:l.length=n) (hb:∀ x∈l,x<n):∀ i,i<n->i∈l:=by
 intro i hi;by_cases z:i∈l
 . exact z
 . have:=wo (l:=i::l) (l':=List.range n) (ba.mpr ⟨z,hn⟩) fun x hx=>by
     rcases az.mp hx with rfl|hx
     . exact cN.mpr hi
     . exact cN.mpr (hb x hx)
   rw [aQ,iM] at this;omega
theorem B4 {m:Int} {rs:List Road} (g:Good m rs) {r:Int} (h0:0<=r) (h1:r<m):∃ par dep,Rooted m rs r par dep:=by
 classical
 have reach:∀ v,0<=v->v<m->∃ n,Dist rs r n v:=g.from h0 h1 (fun v=>∃ n,Dist rs r n v) ⟨0,.zero⟩ fun x hx=>by
   constructor
   . rintro ⟨n,d⟩;exact ⟨n+1,d.step ⟨x,hx,.inl ⟨rfl,rfl⟩⟩⟩
   . rintro ⟨n,d⟩;exact ⟨n+1,d.step ⟨x,hx,.inr ⟨rfl,rfl⟩⟩⟩
 have hd:∀ v,∃ k,(0<=v/\v<m)->Dist rs r k v/\∀ j,j<k->¬ Dist rs r j v:=fun v=>by
   by_cases z:0<=v/\v<m
   . obtain ⟨n,d⟩:=reach v z.1 z.2;obtain ⟨k,h⟩:=bIa (P:=fun k=>Dist rs r k v) n d;exact ⟨k,fun _=>h⟩
   . exact ⟨0,fun h=>absurd h z⟩
 let dep:Int->Nat:=fun v=>(hd v).choose
 have dspec:∀ v,0<=v->v<m->Dist rs r (dep v) v/\∀ j,j<dep v->¬ Dist rs r j v:=fun v a b=>(hd v).choose_spec ⟨a,b⟩;have dr:dep r=0:=by
   have:=(dspec r h0 h1).2 0;by_cases z:dep r=0
   . exact z
   . exact absurd Dist.zero (this (by omega))
 have hp:∀ v,∃ u,(0<=v/\v<m/\v≠r)->Adj rs v u/\dep u+1=dep v:=fun v=>by
   by_cases z:0<=v/\v<m/\v≠r
   . obtain ⟨a,b,c⟩:=z;obtain ⟨d,dm⟩:=dspec v a b;generalize hk:dep v=k at d dm;cases d with
     | zero=>exact absurd rfl c
     | @step n u _ d e =>
       refine ⟨u,fun _=>⟨e.symm,?_⟩⟩;obtain ⟨⟨u0,u1⟩,_⟩:=g.adj e;have l1:dep u<=n:=by
         by_cases w:dep u<=n
         . exact w
         . exact absurd d ((dspec u u0 u1).2 n (by omega))
       have l2:¬ dep u<n:=fun w=>dm (dep u+1) (by omega) ((dspec u u0 u1).1.step e);omega
   . exact ⟨0,fun h=>absurd h z⟩
 let par:Int->Int:=fun v=>(hp v).choose
 have pspec:∀ v,0<=v->v<m->v≠r->Adj rs v (par v)/\dep (par v)+1=dep v:=fun v a b c=>(hp v).choose_spec ⟨a,b,c⟩;have hi:∀ v,∃ i:Nat,(0<=v/\v<m/\v≠r)->∃ x,rs[i]?=some x/\((x.a=v/\x.b=par v)\/(x.b=v/\x.a=par v)):=fun v=>by
   by_cases z:0<=v/\v<m/\v≠r
   . obtain ⟨x,hx,h⟩:=(pspec v z.1 z.2.1 z.2.2).1;obtain ⟨i,e⟩:=cG hx;exact ⟨i,fun _=>⟨x,e,h⟩⟩
   . exact ⟨0,fun h=>absurd h z⟩
 let ix:Int->Nat:=fun v=>(hi v).choose
 have ispec:∀ v,0<=v->v<m->v≠r->∃ x,rs[ix v]?=some x/\((x.a=v/\x.b=par v)\/(x.b=v/\x.a=par v)):=fun v a b c=>(hi v).choose_spec ⟨a,b,c⟩;have inj:∀ v u,0<=v->v<m->v≠r->0<=u->u<m->u≠r->ix v=ix u->v=u:=by
   intro v u a b c a' b' c' e;obtain ⟨x,hx,h⟩:=ispec v a b c;obtain ⟨y,hy,h'⟩:=ispec u a' b' c';rw [e,hy] at hx;cases hx;have d1:=(pspec v a b c).2;have d2:=(pspec u a' b' c').2;rcases h with ⟨p,q⟩|⟨p,q⟩ <;> rcases h' with ⟨p',q'⟩|⟨p',q'⟩
   . exact p.symm.trans p'
   . exfalso
     have e1:v=par u:=p.symm.trans q';have e2:u=par v:=p'.symm.trans q;rw [<- e1] at d2;rw [<- e2] at d1;omega
   . exfalso
     have e1:v=par u:=p.symm.trans q';have e2:u=par v:=p'.symm.trans q;rw [<- e1] at d2;rw [<- e2] at d1;omega
   . exact p.symm.trans p'
 let vs:List Int:=(below m.toNat).filter fun v=>decide (v≠r)
 have mv:∀ v,v∈vs↔(0<=v/\v<m/\v≠r):=fun v=>by
   rw [d9,j4,ck]
   constructor
   . rintro ⟨⟨a,b⟩,c⟩;exact ⟨a,by omega,c⟩
   . rintro ⟨a,b,c⟩;exact ⟨⟨a,by omega⟩,c⟩
 have nv:vs.Nodup:=(qb _).filter _;have lv:vs.length=rs.length:=by
   have e1:(r::vs).length<=(below m.toNat).length:=wo (ba.mpr ⟨fun h=>((mv r).mp h).2.2 rfl,nv⟩) fun x hx=>by
     rcases az.mp hx with rfl|hx
     . exact j4.mpr ⟨h0,by omega⟩
     . have:=(mv x).mp hx;exact j4.mpr ⟨this.1,by omega⟩
   have e2:(below m.toNat).length<=(r::vs).length:=wo (qb _) fun x hx=>by
     have:=j4.mp hx;by_cases z:x=r
     . rw [z];exact aO
     . exact aL _ ((mv x).mpr ⟨this.1,by omega,z⟩)
   rw [eD,aQ] at e1 e2;have:=g.len;have:=g.m1;omega
 have il:(vs.map ix).Nodup:=by
   have:∀ (l:List Int),l.Nodup->(∀ v∈l,0<=v/\v<m/\v≠r)->(l.map ix).Nodup:=by
     intro l
     induction l with
     | nil=>intro _ _;simp
     | cons v l ih =>
       intro hn hm;obtain ⟨n1,n2⟩:=ba.mp hn;rw [aW];refine ba.mpr ⟨fun z=>?_,ih n2 fun u hu=>hm u (aL _ hu)⟩;obtain ⟨u,hu,e⟩:=cu.mp z;obtain ⟨a,b,c⟩:=hm v aO;obtain ⟨a',b',c'⟩:=hm u (aL _ hu);exact n1 (inj u v a' b' c' a b c e ▸ hu)
   exact this vs nv fun v hv=>(mv v).mp hv
 have ib:∀ i∈vs.map ix,i<rs.length:=fun i hi'=>by
   obtain ⟨v,hv,rfl⟩:=cu.mp hi';obtain ⟨a,b,c⟩:=(mv v).mp hv;obtain ⟨x,hx,_⟩:=ispec v a b c;exact (aB.mp hx).1
 have all:=cpa il (by rw [ak,lv]) ib;have back:∀ i x,rs[i]?=some x->∃ v,(0<=v/\v<m/\v≠r)/\ix v=i/\((x.a=v/\x.b=par v)\/(x.b=v/\x.a=par v)):=fun i x e=>by
   obtain ⟨v,hv,rfl⟩:=cu.mp (all i (aB.mp e).1);obtain ⟨a,b,c⟩:=(mv v).mp hv;obtain ⟨y,hy,h⟩:=ispec v a b c;rw [e] at hy;cases hy;exact ⟨v,⟨a,b,c⟩,rfl,h⟩
 have noback:∀ v,0<=v->v<m->v≠r->par v≠r->par (par v)≠v:=fun v a b c c' z=>by
   have d1:=pspec v a b c;obtain ⟨_,⟨a',b'⟩,_⟩:=g.adj d1.1;have d2:=pspec (par v) a' b' c';rw [z] at d2;omega
 have kid:∀ i x,rs[i]?=some x->∃ v,(0<=v/\v<m/\v≠r)/\ix v=i/\(if x.a≠r/\par x.a=x.b then x.a else x.b)=v:=fun i x e=>by
   obtain ⟨v,⟨a,b,c⟩,hv,h⟩:=back i x e;refine ⟨v,⟨a,b,c⟩,hv,?_⟩;rcases h with ⟨p,q⟩|⟨p,q⟩
   . rw [am ⟨by rw [p];exact c,by rw [p];exact q.symm⟩];exact p
   . rw [aj]
     . exact p
     . rintro ⟨z1,z2⟩;rw [q] at z1 z2;exact noback v a b c z1 (z2.trans p)
 refine ⟨par,dep,dr,fun v a b c=>?_,fun x hx=>?_,?_⟩
 . obtain ⟨p,q⟩:=pspec v a b c;obtain ⟨_,w,_⟩:=g.adj p;exact ⟨w,p,q⟩
 . obtain ⟨i,e⟩:=cG hx;obtain ⟨v,⟨a,b,c⟩,_,h⟩:=back i x e;rcases h with ⟨p,q⟩|⟨p,q⟩
   . exact .inl ⟨by rw [p];exact c,by rw [p];exact q.symm⟩
   . exact .inr ⟨by rw [p];exact c,by rw [p];exact q.symm⟩
 . refine ip.mpr fun i j hi' hj' lt=>?_;rw [ak] at hi' hj';rw [jJ,jJ];intro z;obtain ⟨v,_,e1,k1⟩:=kid i rs[i] (aD hi');obtain ⟨u,_,e2,k2⟩:=kid j rs[j] (aD hj');rw [k1,k2] at z;rw [z] at e1;omega
theorem U2 {m:Int} {rs:List Road} (g:Good m rs) {p:Int} (h0:0<=p) (h1:p<m):(gn rs p).Nodup:=by
 obtain ⟨par,dep,R⟩:=B4 g h0 h1;have one:=R.one;have ok:=g.ok;have road:=R.road;clear R g
 induction rs with
 | nil=>simp [gn]
 | cons x l ih =>
   have ox:=ok x aO;have ol:∀ y∈l,RoadOk m y:=fun y hy=>ok y (aL _ hy);rw [aW] at one;obtain ⟨n1,n2⟩:=ba.mp one;have il:=ih n2 ol fun y hy=>road y (aL _ hy);have e:gn (x::l) p=AB p x++gn l p:=by unfold gn;rw [dP]
   rw [e];have kid:∀ y,RoadOk m y->((y.a≠p/\par y.a=y.b)\/(y.b≠p/\par y.b=y.a))->(y.a=p->(if y.a≠p/\par y.a=y.b then y.a else y.b)=y.b)/\(y.b=p->(if y.a≠p/\par y.a=y.b then y.a else y.b)=y.a):=fun y oy hy=>by
     constructor
     . intro z;rw [aj (fun w=>w.1 z)]
     . intro z;rcases hy with hy|hy
       . rw [am hy]
       . exact absurd z hy.1
   have kx:=kid x ox (road x aO);have inl:∀ e∈gn l p,e∈l.map fun y=>if y.a≠p/\par y.a=y.b then y.a else y.b:=fun e he=>by
     obtain ⟨y,hy,h⟩:=yW.mp he;have ky:=kid y (ol y hy) (road y (aL _ hy));refine cu.mpr ⟨y,hy,?_⟩;rcases h with ⟨p1,q1⟩|⟨p1,q1⟩
     . rw [ky.1 p1];exact q1
     . rw [ky.2 p1];exact q1
   unfold AB;by_cases c:x.a=p
   . have d:¬ x.b=p:=fun z=>ox.ne (c.trans z.symm);rw [am c,aj d,bG];refine ba.mpr ⟨fun z=>n1 ?_,il⟩;rw [kx.1 c];exact inl _ z
   . rw [aj c,ic];by_cases d:x.b=p
     . rw [am d];refine ba.mpr ⟨fun z=>n1 ?_,il⟩;rw [kx.2 d];exact inl _ z
     . rw [aj d];exact il
def nO (m:Int) (rs:List Road) (p:Int):List Int:=(below m.toNat).filter fun q=>decide (q∈gn rs p)
theorem MP:∀ {l l':List Int},l.Perm l'->l.Pairwise (·<=·)->l'.Pairwise (·<=·)->l=l'
 | [],l',p,_,_=>(List.Perm.nil_eq p)
 | a::l,l',p,h,h'=>by
   cases l' with
   | nil=>exact absurd p.symm.nil_eq (by simp)
   | cons b r =>
     obtain ⟨h1,h2⟩:=lr.mp h;obtain ⟨h1',h2'⟩:=lr.mp h';have e:a=b:=by
       have ma:a∈b::r:=p.subset aO;have mb:b∈a::l:=p.symm.subset aO;rcases az.mp ma with z|z
       . exact z
       . rcases az.mp mb with w|w
         . exact w.symm
         . have:=h1 b w;have:=h1' a z;omega
     subst e;rw [MP (List.Perm.cons_inv p) h2 h2']
theorem QZ (n:Nat):(below n).Pairwise (·<=·):=by
 unfold below;refine List.Pairwise.map _ (fun a b (h:a<b)=>?_) List.pairwise_lt_range;omega
theorem Si (m:Int) (rs:List Road) (p:Int):(nO m rs p).Pairwise (·<=·):=(QZ _).filter _
theorem Kn (m:Int) (rs:List Road) (p:Int):(nO m rs p).Nodup:=(qb _).filter _
theorem CL {m:Int} {rs:List Road} (g:Good m rs) {p q:Int}:q∈nO m rs p↔Adj rs p q:=by
 unfold nO;rw [d9,ck,IG,j4]
 constructor
 . exact fun h=>h.2
 . intro h;obtain ⟨_,⟨a,b⟩,_⟩:=g.adj h;exact ⟨⟨a,by omega⟩,h⟩
theorem tH:∀ {l l':List Int},l.Nodup->l'.Nodup->(∀ x,x∈l↔x∈l')->l.Perm l'
 | [],l',_,_,h=>by
   cases l' with
   | nil=>exact .nil
   | cons b r=>exact absurd ((h b).mpr aO) (by simp)
 | a::l,l',n,n',h=>by
   obtain ⟨n1,n2⟩:=ba.mp n;have ma:a∈l':=(h a).mp aO;refine List.Perm.trans (List.Perm.cons a ?_) (List.perm_cons_erase ma).symm;refine tH n2 (n'.erase a) fun x=>?_
   constructor
   . intro hx;have ne:x≠a:=fun z=>n1 (z ▸ hx);exact (pp ne).mpr ((h x).mp (aL _ hx))
   . intro hx;have:x≠a:=fun z=>by
       subst z;exact (List.Nodup.not_mem_erase n') hx
     rcases az.mp ((h x).mpr (List.mem_of_mem_erase hx)) with z|z
     . exact absurd z this
     . exact z
theorem b4a {m:Int} {rs:List Road} (g:Good m rs) {p:Int} (h0:0<=p) (h1:p<m) {zs:List Int} (hp:zs.Perm (gn rs p)) (hs:zs.Pairwise (·<=·)):zs=nO m rs p:=by
 refine MP (hp.trans (tH (U2 g h0 h1) (Kn m rs p) fun x=>?_)) hs (Si m rs p);rw [CL g,IG]
def jp (a b:Int) (x:Road):Option Int:=if x.a=a/\x.b=b then some x.t else if x.a=b/\x.b=a then some x.u else none
def cS (rs:List Road) (a b:Int):Option Int:=rs.findSome? (jp a b)
theorem Dx {rs:List Road} {a b:Int}:(cS rs a b).isSome=true↔Adj rs a b:=by
 unfold cS;rw [List.findSome?_isSome_iff]
 constructor
 . rintro ⟨x,hx,h⟩;unfold jp at h;by_cases c:x.a=a/\x.b=b
   . exact ⟨x,hx,.inl c⟩
   . rw [aj c] at h;by_cases d:x.a=b/\x.b=a
     . exact ⟨x,hx,.inr ⟨d.2,d.1⟩⟩
     . rw [aj d] at h;cases h
 . rintro ⟨x,hx,h⟩;refine ⟨x,hx,?_⟩;unfold jp;rcases h with h|h
   . rw [am h];rfl
   . by_cases c:x.a=a/\x.b=b
     . rw [am c];rfl
     . rw [aj c,am ⟨h.2,h.1⟩];rfl
def uQ (x:Road) (a b:Int):Prop:=(x.a=a/\x.b=b)\/(x.b=a/\x.a=b)
theorem MB {m:Int} {rs:List Road} (g:Good m rs) {a b:Int} {i j:Nat} {x y:Road} (hi:rs[i]?=some x) (hj:rs[j]?=some y) (jx:uQ x a b) (jy:uQ y a b):i=j:=by
 obtain ⟨⟨a0,a1⟩,_,_⟩:=g.adj (show Adj rs a b from ⟨x,bd hi,jx⟩);obtain ⟨par,dep,R⟩:=B4 g a0 a1;have kid:∀ z∈rs,uQ z a b->(if z.a≠a/\par z.a=z.b then z.a else z.b)=b:=fun z hz jz=>by
   rcases jz with ⟨p,q⟩|⟨p,q⟩
   . rw [aj (fun w=>w.1 p)];exact q
   . rcases R.road z hz with w|w
     . rw [am w];exact q
     . exact absurd p w.1
 have li:=(aB.mp hi);have lj:=(aB.mp hj);obtain ⟨li,ei⟩:=li;obtain ⟨lj,ej⟩:=lj;have nd:=ip.mp R.one;have vi:(rs.map fun z=>if z.a≠a/\par z.a=z.b then z.a else z.b)[i]'(by rw [ak];exact li)=b:=by
   rw [jJ];exact kid _ (hV li) (ei ▸ jx)
 have vj:(rs.map fun z=>if z.a≠a/\par z.a=z.b then z.a else z.b)[j]'(by rw [ak];exact lj)=b:=by
   rw [jJ];exact kid _ (hV lj) (ej ▸ jy)
 rcases Nat.lt_trichotomy i j with z|z|z
 . exact absurd (vi.trans vj.symm) (nd i j _ _ z)
 . exact z
 . exact absurd (vj.trans vi.symm) (nd j i _ _ z)
theorem UG {a b:Int} {x:Road} (h:¬ uQ x a b):jp a b x=none:=by
 unfold jp;rw [aj (fun z=>h (.inl z)),aj (fun z=>h (.inr ⟨z.2,z.1⟩))]
theorem Ak {m:Int} {rs:List Road} (g:Good m rs) {a b:Int} {i:Nat} {x:Road} (hi:rs[i]?=some x) (j:uQ x a b):cS rs a b=jp a b x:=by
 have lt:=(aB.mp hi);obtain ⟨lt,ex⟩:=lt;have e:rs=rs.take i++x::rs.drop (i+1):=by rw [<- ex,oX,gP]
 have pre:cS (rs.take i) a b=none:=by
   unfold cS;rw [List.findSome?_eq_none_iff];intro y hy;refine UG fun jy=>?_;obtain ⟨k,hk⟩:=cG hy;have lk:=(aB.mp hk).1;rw [bo] at lk;rw [gd (by omega)] at hk;have:=MB g hk hi jy j;omega
 have hx:(jp a b x).isSome=true:=by
   unfold jp;rcases j with z|z
   . rw [am z];rfl
   . by_cases c:x.a=a/\x.b=b
     . rw [am c];rfl
     . rw [aj c,am ⟨z.2,z.1⟩];rfl
 obtain ⟨v,hv⟩:=eK.mp hx;have:cS (rs.take i++x::rs.drop (i+1)) a b=jp a b x:=by
   unfold cS at pre ⊢;rw [jV,pre,lC,hv]
   rfl
 rw [<- e] at this;exact this
theorem VY {rs:List Road} {a b:Int} (h:¬ Adj rs a b):cS rs a b=none:=by
 cases q:cS rs a b with
 | none=>rfl
 | some v=>exact absurd (Dx.mp (by rw [q];rfl)) h
theorem Y6 {x:Road} (h:x.a≠x.b):jp x.a x.b x=some x.t:=by unfold jp;rw [am ⟨rfl,rfl⟩]
theorem Y2 {x:Road} (h:x.a≠x.b):jp x.b x.a x=some x.u:=by unfold jp;rw [aj (fun z=>h z.1),am ⟨rfl,rfl⟩]
theorem Xy {m:Int} {rs:List Road} (p:Int):nO m rs p=(below m.toNat).filter fun q=>(cS rs p q).isSome:=by
 unfold nO
 congr 1
 funext q
 rw [da,ck,Dx,IG]
end Pb
namespace L2
open PySem PySem.Spec PyProof.Rows
def cr (CX:CXT):Prop:=∀ outer H s e s',¬ CX outer H s E0 e s'
theorem cJ {CX:CXT} (q:cr CX) {X:Cx}:Cp CX X E0:=fun _ _ _ _ _ _ _ h=>(q _ _ _ _ _ h).elim
structure Df (K:PySem.W.Frag) (mg:Str->Option Value) (x:Str) (st:Stmt) (ps:List Str) (f:Addr) (fd:FuncData):Prop where
 F:Fun K x x st f fd
 m:mg x=some (.ref f)
 b:Binds K fd ps []
section
variable {P:Program} {w:World} {K:PySem.W.Frag} {mg:Str->Option Value} {base:Heap} {CX:CXT}
theorem Fun.okC {x qual:Str} {st:Stmt} {f:Addr} {fd:FuncData} {N ps:List Str} {k:Nat} {sp:Sp} (F:Fun K x qual st f fd) (S:FnScope N ps (ag st)) (len:∀ vs H Q E,sp vs H Q E->vs.length=ps.length)
   (hbody:∀ (cdv:Value) (A:Around) (outer:List Env) (s:Shared) (H:Hp) (vs:List V) (Q:VK) (E:XK),Room k (A.deeper (envOfC qual (ag st) s.heap.objs.size f cdv))->sp vs H Q E ->
     ∃ t,PSs (wA CX P w K mg base N qual (ag st) f cdv A outer s H E).nox (bw st) t/\t { nx:=fun _ H'=>Q .non H',rt:=Q } (start N vs) H):FnOk P w K mg base CX (k+1) f fd ps sp:=by
 obtain ⟨oc,od,kV,doc,pm,an,cdv,ct,osl,rfl,lk,hcd⟩:=F.ex;refine bPa lk hcd S len fun A outer s H vs Q E hr hsp=>?_;obtain ⟨t,h,q⟩:=hbody cdv A outer s H vs Q E hr hsp;exact ⟨t,h.nox,q⟩
end
structure NmL (sc:Scope) (x:Str):Prop where
 l:sc.names.lookup x=some .local
 d:(x == ("__debug__":Str))=false
 c:(x == ("__classdict__":Str))=false
structure NmC (sc:Scope) (x:Str):Prop where
 l:sc.names.lookup x=some .cell
 d:(x == ("__debug__":Str))=false
 c:(x == ("__classdict__":Str))=false
structure NmG (sc:Scope) (x:Str):Prop where
 g:sc.names.lookup x=some .globalImplicit
 d:(x == ("__debug__":Str))=false
 n:x≠"__name__"
theorem us1 {us:List Value} (h:us.length=1):∃ a0,us=[a0]:=List.length_eq_one_iff.mp h
theorem us2 {us:List Value} (h:us.length=2):∃ a0 a1,us=[a0,a1]:=by
 cases us with
 | nil=>cases h
 | cons a0 t =>
   obtain ⟨a1,e⟩:=us1 (ms h);subst e;exact ⟨a0,a1,rfl⟩
theorem us3 {us:List Value} (h:us.length=3):∃ a0 a1 a2,us=[a0,a1,a2]:=by
 cases us with
 | nil=>cases h
 | cons a0 t =>
   obtain ⟨a1,a2,e⟩:=us2 (ms h);subst e;exact ⟨a0,a1,a2,rfl⟩
theorem us4 {us:List Value} (h:us.length=4):∃ a0 a1 a2 a3,us=[a0,a1,a2,a3]:=by
 cases us with
 | nil=>cases h
 | cons a0 t =>
   obtain ⟨a1,a2,a3,e⟩:=us3 (ms h);subst e;exact ⟨a0,a1,a2,a3,rfl⟩
theorem us5 {us:List Value} (h:us.length=5):∃ a0 a1 a2 a3 a4,us=[a0,a1,a2,a3,a4]:=by
 cases us with
 | nil=>cases h
 | cons a0 t =>
   obtain ⟨a1,a2,a3,a4,e⟩:=us4 (ms h);subst e;exact ⟨a0,a1,a2,a3,a4,rfl⟩
def nmL (sc:Scope) (x:Str):Bool:=decide (sc.names.lookup x=some .local) && !(x == ("__debug__":Str)) && !(x == ("__classdict__":Str))
def nmC (sc:Scope) (x:Str):Bool:=decide (sc.names.lookup x=some .cell) && !(x == ("__debug__":Str)) && !(x == ("__classdict__":Str))
def nmG (sc:Scope) (x:Str):Bool:=decide (sc.names.lookup x=some .globalImplicit) && !(x == ("__debug__":Str)) && !decide (x="__name__")
theorem NmL.of {sc:Scope} {x:Str} (h:nmL sc x=true):NmL sc x:=by
 unfold nmL at h;simp only [bq,ck,gR] at h;exact ⟨h.1.1,h.1.2,h.2⟩
theorem NmC.of {sc:Scope} {x:Str} (h:nmC sc x=true):NmC sc x:=by
 unfold nmC at h;simp only [bq,ck,gR] at h;exact ⟨h.1.1,h.1.2,h.2⟩
theorem NmG.of {sc:Scope} {x:Str} (h:nmG sc x=true):NmG sc x:=by
 unfold nmG at h;simp only [bq,ck,gR,mV] at h;exact ⟨h.1.1,h.1.2,h.2⟩
def d0a (N ps:List Str) (sc:Scope):Bool:=decide (sc.kind=.function) && !sc.isCoroutine && !sc.isGenerator && decide N.Nodup && decide (N.take ps.length=ps) && (ps.all fun x=>decide (sc.names.lookup x=some .local\/sc.names.lookup x=some .cell)) && (sc.names.all fun y=>decide (y.2≠.free))
theorem FnScope.of {N ps:List Str} {sc:Scope} (h:d0a N ps sc=true):FnScope N ps sc:=by
 unfold d0a at h;simp only [bq,ck,gR,fk] at h;obtain ⟨⟨⟨⟨⟨⟨h1,h2⟩,h3⟩,h4⟩,h5⟩,h6⟩,h7⟩:=h;exact ⟨h1,h2,h3,h4,h5,h6,h7⟩
theorem pvl {X:Cx} (i:Nat) {x:Str} {pos:Pos} (n:NmL X.env.scope x) (hN:X.N[i]?=some x:=by rfl):PE X (.Name x pos) (LB i):=PR hN (.inl n.l) n.d n.c
theorem pvc {X:Cx} (i:Nat) {x:Str} {pos:Pos} (n:NmC X.env.scope x) (hN:X.N[i]?=some x:=by rfl):PE X (.Name x pos) (LB i):=PR hN (.inr (.inl n.l)) n.d n.c
theorem Wp {CX:CXT} {P:Program} {w:World} {K:PySem.W.Frag} {mg:Str->Option Value} {base:Heap} {N:List Str} {qual:Str} {scope:Scope} {f:Addr} {cd:Value} {A:Around} {outer:List Env} {s:Shared} {H:Hp} {E:XK} :
   (wA CX P w K mg base N qual scope f cd A outer s H E).K=K:=rfl
theorem Nh (D:Ends) (σ:St) (H:Hp):tNever D σ H=False:=rfl
theorem coa (i j:Int):Ba (.int i) (.int j)=true:=rfl
theorem cya (i j:Bool):Ba (.bl i) (.bl j)=true:=rfl
theorem caa (i:Int):Ba (.int i) .non=true:=rfl
theorem cna (i:Int):Ba .non (.int i)=true:=rfl
theorem cTa:Ba .non .non=true:=rfl
theorem cUa (i j:Str):Ba (.str i) (.str j)=true:=rfl
theorem ixT {K:PySem.W.Frag} {H:Hp} {p:Addr} {xs:List V} {i:Int} {v:V} {Q:VK} (h:H p=some (.tup xs)) (e:atI xs i=some v) (q:Q v H):VU K (.ref p) (.int i) H Q:=⟨p,xs,i,v,rfl,rfl,SqT.of h,e,q⟩
theorem ixL {K:PySem.W.Frag} {H:Hp} {p:Addr} {xs:List V} {i:Int} {v:V} {Q:VK} (h:H p=some (.lst xs)) (e:atI xs i=some v) (q:Q v H):Mt K (.ref p) (.int i) H Q:=⟨p,xs,i,v,rfl,rfl,SqL.of h,e,q⟩
theorem ixS {K:PySem.W.Frag} {H:Hp} {p:Addr} {xs:List V} {i:Int} {v:V} {Q:VK} (h:SqL K H p xs) (e:atI xs i=some v) (q:Q v H):Mt K (.ref p) (.int i) H Q:=⟨p,xs,i,v,rfl,rfl,h,e,q⟩
theorem tyL {K:PySem.W.Frag} {H:Hp} {l:Addr} {xs:List V} (h:H l=some (.lst xs)):tyV K "list" (.ref l) H:=.inl ⟨rfl,_,SqL.of h⟩
theorem uY {H:Hp} {l:Addr} {xs:List V} {y:V} {Q:VK} (h:H l=some (.lst xs)) (hz:xs.length<sizeLine) (q:Q .non (upd H l (.lst (xs++[y])))):rAppend (.ref l) [y] H Q:=⟨l,xs,y,rfl,rfl,h,hz,q⟩
theorem eSa {H:Hp} {l:Addr} {xs:List V} {i:Int} {y:V} {Q:VK} (h:H l=some (.lst xs)) (h0:0<=i) (h1:i<=xs.length) (hz:xs.length<sizeLine) (q:Q .non (upd H l (.lst (xs.take i.toNat++y::xs.drop i.toNat)))):rInsert (.ref l) [.int i,y] H Q :=
 ⟨l,xs,i,y,rfl,rfl,h,h0,h1,hz,q⟩
theorem aoa {H:Hp} {l:Addr} {xs:List V} {y:V} {Q:VK} (h:H l=some (.lst (xs++[y]))) (q:Q y (upd H l (.lst xs))):rPop (.ref l) [] H Q :=
 ⟨l,xs++[y],y,rfl,rfl,h,by simp,by rw [List.dropLast_concat];exact q⟩
theorem gk {n:Nat} (h:n<=100000):n<sizeLine:=Nat.lt_of_le_of_lt h (by decide)
theorem bn {n:Nat} (h:n<=100000):n<=sizeLine:=jr (gk h)
theorem Ck {α:Type} {xs:List α} {i:Int} {v:α} (h0:0<=i) (h:xs[i.toNat]?=some v):atI xs i=some v:=by
 obtain ⟨n,rfl⟩:∃ n:Nat,i=n:=⟨i.toNat,by omega⟩;exact Mc (by simpa using h)
theorem IH {X:Cx} {x:Str} {i:Int} {pos:Pos} (hg:Gl X x) (hm:∃ t,X.mg x=some (.int i t)) (hd:(x == ("__debug__":Str))=false:=by decide):PE X (.Name x pos) (tC (.int i)):=by
 obtain ⟨t,e⟩:=hm;exact b7a hg e ⟨t,rfl⟩ hd
def Itx (K:PySem.W.Frag):Bool->Addr->It
 | true,a=>Itl K a
 | false,a=>Itt K a
def aZa (K:PySem.W.Frag) (c:Bool) (tl:TE):TI:=fun σ H R=>tl σ H fun x H1=>∃ a,x=.ref a/\(∃ xs,SqX K c H1 a xs)/\R (Itx K c a) H1
theorem QX {X:Cx} {tg l:Expr} {tl:TE} (c:Bool) (hl:PE X l tl):PI X tg l (aZa X.K c tl):=by
 cases c
 . exact FR hl
 . exact mI hl
theorem cwa {K:PySem.W.Frag} {c:Bool} {a:Addr} {xs:List V} {g:TG} {tb:TS} {D:Ends} {σ:St} {H:Hp} (Pv:Nat->St->Hp->Prop) (h0:Pv 0 σ H) (hl:∀ i σ H,i<=xs.length->Pv i σ H->SqX K c H a xs)
   (hs:∀ i x σ H,xs[i]?=some x->Pv i σ H->g x σ H fun σ2 H2=>tb { D with nx:=Pv (i+1),ct:=Pv (i+1),bk:=D.nx } σ2 H2) (hd:∀ σ H,Pv xs.length σ H->D.nx σ H) :
   ∃ W:Nat->Nat->St->Hp->Prop,(∃ m,W 0 m σ H)/\∀ i m σ H,W i m σ H ->
     ((Itx K c a).stop i H/\D.nx σ H)\/((Itx K c a).go i H/\∃ N:St->Hp->Prop,(∀ σ' H',N σ' H'->∃ m',m'<m/\W (i+1) m' σ' H')/\∀ x H',(Itx K c a).yld i H x H'->g x σ H' fun σ2 H2=>tb { D with nx:=N,ct:=N,bk:=D.nx } σ2 H2):=by
 cases c
 . exact GH Pv h0 hl hs hd
 . exact Pr Pv h0 hl hs hd
def E6 (J:It) (p:Addr) (Q:VK) (g:TG) (tc:TT) (te:TE) (σ0:St) (H0:Hp):Prop :=
 ∃ W:Nat->Nat->List V->St->Hp->Prop,(∃ m,W 0 m [] σ0 H0)/\∀ i m ys σc Hc,W i m ys σc Hc ->
   (J.stop i Hc/\Q (.ref p) Hc)\/(J.go i Hc/\∀ x H',J.yld i Hc x H'->g x σc H' fun σ2 H2=>tc σ2 H2 fun b H3 =>
     if b=true then te σ2 H3 fun y H4=>H4 p=some (.lst ys)/\ys.length<sizeLine/\∃ m',m'<m/\W (i+1) m' (ys++[y]) σ2 (upd H4 p (.lst (ys++[y])))
     else ∃ m',m'<m/\W (i+1) m' ys σ2 H3)
theorem MS {own:Nat} {js:List Nat} {wi:TI} {g:TG} {tc:TT} {te:TE} {σ:St} {H:Hp} {Q:VK}:Vw own js wi g tc te σ H Q=wi σ H fun J H1=>∀ p,H1 p=none->E6 J p Q g tc te (pB own js σ) (upd H1 p (.lst [])):=rfl
def yo (J:It) (D:Ends) (g:TG) (tb:TS) (σ:St) (H:Hp):Prop:=∃ W:Nat->Nat->St->Hp->Prop,(∃ m,W 0 m σ H)/\∀ i m σ H,W i m σ H ->
 (J.stop i H/\D.nx σ H)\/(J.go i H/\∃ N:St->Hp->Prop,(∀ σ' H',N σ' H'->∃ m',m'<m/\W (i+1) m' σ' H')/\∀ x H',J.yld i H x H'->g x σ H' fun σ2 H2=>tb { D with nx:=N,ct:=N,bk:=D.nx } σ2 H2)
theorem Tu {wi:TI} {g:TG} {tb:TS} {D:Ends} {σ:St} {H:Hp}:dTa wi g tb D σ H=wi σ H fun J H1=>yo J D g tb σ H1:=rfl
theorem Jb {K:PySem.W.Frag} {c:Bool} {a p:Addr} {xs:List V} {Q:VK} {g:TG} {tc:TT} {te:TE} {σ0:St} {H0:Hp} (Pv:Nat->List V->St->Hp->Prop) (h0:Pv 0 [] σ0 H0) (hl:∀ i ys σ H,i<=xs.length->Pv i ys σ H->SqX K c H a xs)
   (hs:∀ (i:Nat) (x:V) (ys:List V) (σ:St) (H:Hp) (N:List V->St->Hp->Prop),(∀ ys' σ' H',Pv (i+1) ys' σ' H'->N ys' σ' H')->xs[i]?=some x->Pv i ys σ H->g x σ H fun σ2 H2=>tc σ2 H2 fun b H3 =>
     if b=true then te σ2 H3 fun y H4=>H4 p=some (.lst ys)/\ys.length<sizeLine/\N (ys++[y]) σ2 (upd H4 p (.lst (ys++[y]))) else N ys σ2 H3)
   (hd:∀ ys σ H,Pv xs.length ys σ H->Q (.ref p) H):E6 (Itx K c a) p Q g tc te σ0 H0:=by
 refine ⟨fun i m ys σ H=>m=xs.length - i/\i<=xs.length/\Pv i ys σ H,⟨xs.length,by simp,bi _,h0⟩,?_⟩;rintro i m ys σ H ⟨rfl,hi,pv⟩;have q:=hl i ys σ H hi pv;by_cases hlt:i<xs.length
 . refine .inr ⟨?_,fun x H' y=>?_⟩
   . cases c
     . exact ⟨xs,xs[i],q,by simp [hlt]⟩
     . exact ⟨xs,xs[i],q,by simp [hlt]⟩
   . have e:H'=H/\xs[i]?=some x:=by
       cases c
       . exact ⟨y.1,y.2 xs q⟩
       . exact ⟨y.1,y.2 xs q⟩
     obtain ⟨rfl,hx⟩:=e;exact hs i x ys σ _ (fun ys' σ' H'=>∃ m',m'<xs.length - i/\(m'=xs.length - (i+1)/\i+1<=xs.length/\Pv (i+1) ys' σ' H')) (fun ys' σ' H' pv'=>⟨xs.length - (i+1),by omega,rfl,hlt,pv'⟩) hx pv
 . have e:i=xs.length:=by omega
   subst e;refine .inl ⟨?_,hd ys σ H pv⟩;cases c
   . exact ⟨xs,q,aA _⟩
   . exact ⟨xs,q,aA _⟩
theorem vh {lo:Int} {n:Nat} {p:Addr} {Q:VK} {g:TG} {tc:TT} {te:TE} {σ0:St} {H0:Hp} (Pv:Nat->List V->St->Hp->Prop) (h0:Pv 0 [] σ0 H0)
   (hs:∀ (i:Nat) (ys:List V) (σ:St) (H:Hp) (N:List V->St->Hp->Prop),(∀ ys' σ' H',Pv (i+1) ys' σ' H'->N ys' σ' H')->i<n->Pv i ys σ H->g (.int (lo+i)) σ H fun σ2 H2=>tc σ2 H2 fun b H3 =>
     if b=true then te σ2 H3 fun y H4=>H4 p=some (.lst ys)/\ys.length<sizeLine/\N (ys++[y]) σ2 (upd H4 p (.lst (ys++[y]))) else N ys σ2 H3)
   (hd:∀ ys σ H,Pv n ys σ H->Q (.ref p) H):E6 (Itr lo n) p Q g tc te σ0 H0:=by
 refine ⟨fun i m ys σ H=>m=n - i/\i<=n/\Pv i ys σ H,⟨n,by simp,bi _,h0⟩,?_⟩;rintro i m ys σ H ⟨rfl,hi,pv⟩;by_cases hlt:i<n
 . refine .inr ⟨hlt,fun x H' y=>?_⟩;obtain ⟨rfl,rfl⟩:=y;exact hs i ys σ _ (fun ys' σ' H'=>∃ m',m'<n - i/\(m'=n - (i+1)/\i+1<=n/\Pv (i+1) ys' σ' H')) (fun ys' σ' H' pv'=>⟨n - (i+1),by omega,rfl,hlt,pv'⟩) hlt pv
 . have e:i=n:=by omega
   subst e;exact .inl ⟨aA _,hd ys σ H pv⟩
theorem oV:bootBuiltins "len"=some (.builtin "len"):=by decide +kernel
theorem Ed:bootBuiltins "isinstance"=some (.builtin "isinstance"):=by decide +kernel
theorem Pp:bootBuiltins "all"=some (.builtin "all"):=by decide +kernel
theorem Fo:bootBuiltins "sorted"=some (.builtin "sorted"):=by decide +kernel
theorem vX:bootBuiltins "list"=some (.type "list"):=by decide +kernel
theorem iq:bootBuiltins "tuple"=some (.type "tuple"):=by decide +kernel
theorem Uh:bootBuiltins "bool"=some (.type "bool"):=by decide +kernel
section
variable {X:Cx} {a b o e:Expr} {es:List Expr} {ta tb to:TE} {t:TA} {pos apos cpos:Pos} {f name:Str} {T id:String} {r:V->List V->Hp->VK->Prop}
theorem Mq (K:PySem.W.Frag) (h:X.K=K):vo X (.type "tuple") (fun xs H Q=>∃ p ys,xs=[.ref p]/\((SqL K H p ys/\∀ l,H l=none->Q (.ref l) (upd H l (.tup ys)))\/(SqT K H p ys/\Q (.ref p) H))):=by subst h;exact dM
theorem Dh (K:PySem.W.Frag) (h:X.K=K):IxR X (Mt K):=by subst h;exact b9
theorem Ty (K:PySem.W.Frag) (h:X.K=K):IxR X (VU K):=by subst h;exact dR
end
theorem Kj {x:Str} {k:NameKind}:∀ {l:List (Str × NameKind)},l.lookup x=some k->∃ y,(y,k)∈l
 | [],h=>by simp at h
 | (n,j)::r,h=>by
   rw [bW] at h;cases q:x == n with
   | true =>
     rw [q] at h;cases h;exact ⟨n,aO⟩
   | false =>
     rw [q] at h;obtain ⟨y,hy⟩:=Kj h;exact ⟨y,aL _ hy⟩
theorem Jw {X:Cx} {Nc:List Str} {scope:Scope} (own:Nat) (hf:∀ y∈scope.names,y.2≠.free) (hc:∀ y∈scope.names,y.2≠.cell) (hk:scope.kind=.function) (hn:∀ y∈scope.names,y.2=.local->scope.names.lookup y.1=some .local)
   (hl:Nc.length=own):CompTxt X Nc own [] scope [] where
 clos:=closureFor_none hf
 kind:=hk
 nocell:=hc
 names:=hn
 cells:=fun x c h=>by cases h
 has:=fun x h=>by
   have key:∀ k,(relabel scope X.env).names.lookup x=some k->k≠.cell/\k≠.free:=fun k e=>by
     obtain ⟨y,hy⟩:=Kj e;obtain ⟨⟨n,k0⟩,hm,e2⟩:=cu.mp hy;have h1:=hf _ hm;have h2:=hc _ hm;have e3:(k0 == NameKind.free)=false:=(by simpa using h1);simp only [e3,ff,bB,if_false] at e2;cases e2;exact ⟨h2,h1⟩
   rcases h with h|h
   . exact absurd rfl (key _ h).1
   . exact absurd rfl (key _ h).2
 len:=by simpa using hl
 outer:=fun i x h=>by
   rw [bJ (by omega)] at h;cases h
theorem YB {K:PySem.W.Frag} {c:Bool} {a:Addr} {xs:List V} {g:TG} {tb:TS} {D:Ends} {σ:St} {H:Hp} (Pv:Nat->St->Hp->Prop) (h0:Pv 0 σ H) (hl:∀ i σ H,i<=xs.length->Pv i σ H->SqX K c H a xs)
   (hs:∀ (i:Nat) (x:V) (σ:St) (H:Hp) (N:St->Hp->Prop),(∀ σ' H',Pv (i+1) σ' H'->N σ' H')->xs[i]?=some x->Pv i σ H->g x σ H fun σ2 H2=>tb { D with nx:=N,ct:=N,bk:=D.nx } σ2 H2) (hd:∀ σ H,Pv xs.length σ H->D.nx σ H) :
   yo (Itx K c a) D g tb σ H:=cwa Pv h0 hl (fun i x σ H hx p=>hs i x σ H (Pv (i+1)) (fun _ _ z=>z) hx p) hd
theorem AH {K:PySem.W.Frag} {a:Addr} {xs:List V} {g:TG} {tb:TS} {D:Ends} {σ:St} {H:Hp} (Pv:Nat->St->Hp->Prop) (h0:Pv 0 σ H) (hl:∀ i σ H,i<=xs.length->Pv i σ H->SqL K H a xs)
   (hs:∀ (i:Nat) (x:V) (σ:St) (H:Hp) (N:St->Hp->Prop),(∀ σ' H',Pv (i+1) σ' H'->N σ' H')->xs[i]?=some x->Pv i σ H->g x σ H fun σ2 H2=>tb { D with nx:=N,ct:=N,bk:=D.nx } σ2 H2) (hd:∀ σ H,Pv xs.length σ H->D.nx σ H) :
   yo (Itl K a) D g tb σ H:=Pr Pv h0 hl (fun i x σ H hx p=>hs i x σ H (Pv (i+1)) (fun _ _ z=>z) hx p) hd
theorem Rx {K:PySem.W.Frag} {a:Addr} {xs:List V} {g:TG} {tb:TS} {D:Ends} {σ:St} {H:Hp} (Pv:Nat->St->Hp->Prop) (h0:Pv 0 σ H) (hl:∀ i σ H,i<=xs.length->Pv i σ H->SqT K H a xs)
   (hs:∀ (i:Nat) (x:V) (σ:St) (H:Hp) (N:St->Hp->Prop),(∀ σ' H',Pv (i+1) σ' H'->N σ' H')->xs[i]?=some x->Pv i σ H->g x σ H fun σ2 H2=>tb { D with nx:=N,ct:=N,bk:=D.nx } σ2 H2) (hd:∀ σ H,Pv xs.length σ H->D.nx σ H) :
   yo (Itt K a) D g tb σ H:=GH Pv h0 hl (fun i x σ H hx p=>hs i x σ H (Pv (i+1)) (fun _ _ z=>z) hx p) hd
theorem yj {lo:Int} {n:Nat} {g:TG} {tb:TS} {D:Ends} {σ:St} {H:Hp} (Pv:Nat->St->Hp->Prop) (h0:Pv 0 σ H)
   (hs:∀ (i:Nat) (σ:St) (H:Hp) (N:St->Hp->Prop),(∀ σ' H',Pv (i+1) σ' H'->N σ' H')->i<n->Pv i σ H->g (.int (lo+i)) σ H fun σ2 H2=>tb { D with nx:=N,ct:=N,bk:=D.nx } σ2 H2) (hd:∀ σ H,Pv n σ H->D.nx σ H) :
   yo (Itr lo n) D g tb σ H:=XM Pv h0 (fun i σ H hi p=>hs i σ H (Pv (i+1)) (fun _ _ z=>z) hi p) hd
theorem LC {c:TT} {tb:TS} {D:Ends} {σ:St} {H:Hp} (W:Nat->St->Hp->Prop) (n0:Nat) (h0:W n0 σ H)
   (hs:∀ (n:Nat) (σ:St) (H:Hp) (N:St->Hp->Prop),(∀ n' σ' H',n'<n->W n' σ' H'->N σ' H')->(∀ σ' H',N σ' H'->∃ m',m'<n/\W m' σ' H')->W n σ H ->
     c σ H fun b H1=>if b=true then ∃ N:St->Hp->Prop,(∀ σ' H',N σ' H'->∃ m',m'<n/\W m' σ' H')/\tb { D with nx:=N,ct:=N,bk:=D.nx } σ H1 else D.nx σ H1):O6 c tb D σ H :=
 ⟨W,⟨n0,h0⟩,fun n σ H w=>hs n σ H (fun σ' H'=>∃ m',m'<n/\W m' σ' H') (fun n' _ _ hn w'=>⟨n',hn,w'⟩) (fun _ _ z=>z) w⟩
theorem p60:(0:Int)<10^(60:Int).toNat:=Int.pow_pos (by decide)
open Pb
def rX (r:Road):List V:=[.int r.a,.int r.b,.int r.t,.int r.u]
abbrev RoadsAt (H:Hp):List Addr->List Road->Prop:=Paired fun p r=>H p=some (.tup (rX r))
theorem RoadsAt.same {H H':Hp} (e:Same H H') {ps:List Addr} {rs:List Road} (h:RoadsAt H ps rs):RoadsAt H' ps rs:=Paired.imp' (fun p r q=>e p _ q) h
theorem RoadsAt.get {H:Hp}:∀ {ps:List Addr} {rs:List Road} {i:Nat} {x:V},RoadsAt H ps rs->(ps.map V.ref)[i]?=some x->∃ p r,x=.ref p/\ps[i]?=some p/\rs[i]?=some r/\H p=some (.tup (rX r))
 | _,_,i,x,.nil,e=>by simp at e
 | _,_,0,x,.cons (a:=p) (b:=r) h hs,e=>⟨p,r,by simpa using e.symm,by simp,by simp,h⟩
 | a::l1,_,i+1,x,.cons h hs,e=>by
   have e':(List.map V.ref l1)[i]?=some x:=by simpa using e
   obtain ⟨p,r,h1,h2,h3,h4⟩:=RoadsAt.get hs e';exact ⟨p,r,h1,by simpa using h2,by simpa using h3,h4⟩
theorem Same.tup {K:PySem.W.Frag} {H H':Hp} {a:Addr} {xs:List V} (e:Same H H') (h:SqT K H a xs):SqT K H' a xs:=by
 rcases h with (h|⟨o,h⟩)|h
 . exact .inl (.inl (e _ _ h))
 . exact .inl (.inr ⟨o,e _ _ h⟩)
 . exact .inr h
theorem Same.sqX {K:PySem.W.Frag} {H H':Hp} {c:Bool} {a:Addr} {xs:List V} (e:Same H H') (h:SqX K c H a xs):SqX K c H' a xs:=by
 cases c
 . exact Same.tup e h
 . exact Same.seq e h
theorem Same.new {H:Hp} {p:Addr} (o:HO) (h:H p=none):Same H (upd H p o):=fun b u e=>by rw [aR (dc e h)];exact e
end L2
namespace L2
open PySem PySem.Spec PyProof.Rows
abbrev bmV:List Value:=[.type "ValueError",.type "Exception",.type "BaseException",.type "object"]
structure XCls (K:PySem.W.Frag) (C:Addr):Prop where
 ty:PySem.W.typeIn K (.ref C)=some (.type "type")
 ga:PySem.W.findIn K (.ref C) "__getattribute__"=some (some (.builtin "BaseException.__getattribute__"))
 gt:PySem.W.findIn K (.ref C) "__getattr__"=some none
 cl:PySem.W.findIn K (.ref C) "__class__"=some (some (.builtin "object.__class__"))
 gs:PySem.W.specialIn K (.builtin "object.__class__") "__get__"=some (some (.builtin "getset_descriptor.__get__"))
 tk:PySem.W.takesIn K (.builtin "object.__class__")=some true
 mo:PySem.W.mroIn K C (.type "object")=some true
 mb:PySem.W.mroIn K C (.type "BaseException")=some true
 hd:PySem.W.hasDictIn K C=true
 sf:PySem.W.mroIn K C (.ref C)=some true
end L2
namespace L2
open PySem PySem.Spec PyProof.Rows
def uu (h:Heap) (ea:Addr) (cls:Value) (od:Option Addr) (head:Value):Prop:=∃ oe vs,h.get? ea=some oe/\oe.cls=cls/\oe.dict=od/\oe.data=.fields vs/\vs[1]?=some head/\vs[2]?=some .none
def TbO (h:Heap) (T:Addr) (fl:Value):Prop:=∃ oT ts,h.get? T=some oT/\oT.data=.fields ts/\ts[3]?=some fl
structure Err (h:Heap) (ea T:Addr) (cls:Value) (od:Option Addr) (fl:Value):Prop where
 e:uu h ea cls od (.ref T)
 t:TbO h T fl
 ne:T≠ea
structure Kept (fs xs:List Addr) (h h':Heap):Prop where
 keep:∀ b o,h.get? b=some o->b ∉ fs->b ∉ xs->h'.get? b=some o
 slot:∀ b o,h.get? b=some o->b∈fs->b ∉ xs->∃ sl,h'.get? b=some { o with slots:=sl }
 there:∀ b o,h.get? b=some o->∃ o',h'.get? b=some o'
theorem Kept.mono {fs xs ys:List Addr} {h h':Heap} (k:Kept fs xs h h') (s:∀ b∈xs,b∈ys):Kept fs ys h h':=⟨fun b o e f x=>k.keep b o e f fun z=>x (s b z),fun b o e f x=>k.slot b o e f fun z=>x (s b z),k.there⟩
theorem Kept.trans {fs xs:List Addr} {h h1 h2:Heap} (a:Kept fs xs h h1) (b:Kept fs xs h1 h2):Kept fs xs h h2 where
 keep:=fun c o e f x=>b.keep c o (a.keep c o e f x) f x
 slot:=fun c o e f x=>by
   obtain ⟨s1,e1⟩:=a.slot c o e f x;obtain ⟨s2,e2⟩:=b.slot c _ e1 f x;exact ⟨s2,e2⟩
 there:=fun c o e=>by
   obtain ⟨o1,e1⟩:=a.there c o e;exact b.there c o1 e1
theorem Kept.of_all {fs xs:List Addr} {h h':Heap} (k:∀ b o,h.get? b=some o->h'.get? b=some o):Kept fs xs h h':=⟨fun b o e _ _=>k b o e,fun b o e _ _=>⟨o.slots,k b o e⟩,fun b o e=>⟨o,k b o e⟩⟩
theorem Iw {fs xs:List Addr} {h:Heap} {a:Addr} {oa:Obj} {vs:Array Value} {i:Nat} {v:Value} (ha:h.get? a=some oa) (hd:oa.data=.fields vs) (hx:a∈xs):Kept fs xs h (h.update a (Obj.mapFields (·.setIfInBounds i v))):=by
 have oth:∀ b o,h.get? b=some o->b ∉ xs->(h.update a (Obj.mapFields (·.setIfInBounds i v))).get? b=some o:=fun b o e x=>by
   rw [bR _ _ (fun (z:a=b)=>x (z ▸ hx))];exact e
 refine ⟨fun b o e _ x=>oth b o e x,fun b o e _ x=>⟨o.slots,oth b o e x⟩,fun b o e=>?_⟩;by_cases z:b=a
 . subst z;exact ⟨_,bI _ ha (cM (bK hd _))⟩
 . rw [bR _ _ (Ne.symm z)];exact ⟨o,e⟩
theorem aha {h:Heap} {ea:Addr} {cls hd v:Value} {od:Option Addr} (e:uu h ea cls od hd):uu (h.update ea (Obj.mapFields (·.setIfInBounds 1 v))) ea cls od v:=by
 obtain ⟨oe,vs,h1,h2,h3,h4,h5,h6⟩:=e;have sz:1<vs.size:=(eL.mp h5).1;refine ⟨_,_,bI _ h1 (cM (bK h4 _)),?_,?_,bK h4 _,by simp [sz],by rw [Array.getElem?_setIfInBounds_ne (by decide)];exact h6⟩
 . rw [<- h2];exact gG _ _
 . rw [<- h3];obtain ⟨c,d,dt,sl⟩:=oe;cases dt <;> rfl
theorem KR {h:Heap} {ea a:Addr} {cls hd:Value} {od:Option Addr} {f:Obj->Obj} (e:uu h ea cls od hd) (ne:a≠ea):uu (h.update a f) ea cls od hd:=by
 obtain ⟨oe,vs,h1,h2⟩:=e;exact ⟨oe,vs,by rw [bR _ _ ne];exact h1,h2⟩
theorem Nt {h h':Heap} {ea:Addr} {cls hd:Value} {od:Option Addr} (e:uu h ea cls od hd) (k:∀ o,h.get? ea=some o->h'.get? ea=some o):uu h' ea cls od hd:=by
 obtain ⟨oe,vs,h1,h2⟩:=e;exact ⟨oe,vs,k _ h1,h2⟩
theorem V8 {h base:Heap} {ea:Addr} {cls hd:Value} {od:Option Addr} {l:List Env} (e:uu h ea cls od hd) (f:h.FunFrames base l):ea ∉ frs l:=fun z=>by
 obtain ⟨oe,vs,h1,_,_,h4,_⟩:=e;obtain ⟨_,o,ho,hn⟩:=f.mem z;rw [h1] at ho;cases ho;exact hn vs h4
theorem bpa {h base:Heap} {T:Addr} {fl:Value} {l:List Env} (e:TbO h T fl) (f:h.FunFrames base l):T ∉ frs l:=fun z=>by
 obtain ⟨oe,vs,h1,h4,_⟩:=e;obtain ⟨_,o,ho,hn⟩:=f.mem z;rw [h1] at ho;cases ho;exact hn vs h4
section
variable {M:Model} {A:Around} {E:Value->Shared->Prop} {s:Shared} {Q:Unit->Shared->Prop} {fs:List Addr} {ea T L:Addr} {cls fl hd:Value} {od:Option Addr} {base:Heap} {env:Env} {outer:List Env}
theorem GR (r:Err s.heap ea T cls od fl) (h:∀ h',Err h' ea T cls od .none->Kept fs [T] s.heap h'->Q () { s with heap:=h' }):wpAny M A (setFlight (.ref ea) none) Q E s:=by
 obtain ⟨⟨oe,vs,h1,h2,h3,h4,h5,h6⟩,⟨oT,ts,t1,t2,t3⟩,ne⟩:=r;have sz:3<ts.size:=(eL.mp t3).1;unfold setFlight;refine aa (b4 h1 h4 h5 ?_);rw [am (by simp:(Value.ref T != Value.none)=true)];refine c8 t1 t2 sz (h _ ⟨KR ⟨oe,vs,h1,h2,h3,h4,h5,h6⟩ ne,⟨_,_,bI _ t1 (cM (bK t2 _)),bK t2 _,by simp [sz]⟩,ne⟩ (Iw t1 t2 (by simp)))
theorem Q7 {head:Value} {hadNext:Bool} (hfr:A.frames=some (env::outer)) (hl:s.heap.FunFrames base (env::outer)) (hf:env.frame=some L) (r:uu s.heap ea cls od hd)
   (h:∀ h' T',Err h' ea T' cls od (rawInt L)->Kept (frs (env::outer)) [ea] s.heap h'->s.heap.get? T'=none->Q () { s with heap:=h' }) :
   wpAny M A (do let a <- frameOf env;let pl <- entryPlaceOf L hadNext;let b <- EntryCells.newEntry head a .none (rawInt L) .none pl;setField (.ref ea) 1 b) Q E s:=by
 have nf:=V8 r hl;refine aa (wpAny_frameOf_fun hfr hl hf fun g1 so=>aa (wpAny_entryPlaceOf fun pl hpl=>?_));unfold EntryCells.newEntry newFields;refine aa (bX ?_ (hpl.sizeOk5 _ _ _ _ _));have r1:uu g1 ea cls od hd:=Nt r fun o e=>(so.2.1 ea nf).trans e;generalize ht:({ cls:=.type "traceback",dict:=none,data:=.fields ([head,.ref L,.none,rawInt L,.none]++(if pl.isEmpty then List.replicate 6 Value.none else pl)).toArray }:Obj)=tb;have r2:uu (g1.push tb) ea cls od hd:=Nt r1 fun o e=>ap _ e;obtain ⟨oe,vs,e1,e2,e3,e4,e5,e6⟩:=id r2;have lt:ea<g1.objs.size:=by
   obtain ⟨_,_,e,_⟩:=r1;exact aw e
 have hT:(g1.push tb).get? g1.objs.size=some tb:=aJ g1 (by rw [<- ht];rfl);refine c8 e1 e4 (eL.mp e5).1 (h _ g1.objs.size ⟨aha r2,⟨tb,([head,.ref L,.none,rawInt L,.none]++(if pl.isEmpty then List.replicate 6 Value.none else pl)).toArray,?_,by rw [<- ht],by simp⟩,dI lt⟩ ?_ ?_)
 . rw [bR _ _ (aE lt)];exact hT
 . have k1:Kept (frs (env::outer)) [ea] s.heap g1:=⟨fun b o e f _=>(so.2.1 b f).trans e,fun b o e _ _=>so.2.2 b o e,fun b o e=>by
     obtain ⟨sl,z⟩:=so.2.2 b o e;exact ⟨_,z⟩⟩
   exact k1.trans ((Kept.of_all fun b o e=>ap _ e).trans (Iw e1 e4 (by simp)))
 . exact fW (by rw [so.1];exact aA _)
theorem Yl (hfr:A.frames=some (env::outer)) (hl:s.heap.FunFrames base (env::outer)) (hf:env.frame=some L) (r:uu s.heap ea cls od .none)
   (h:∀ h' T',Err h' ea T' cls od (rawInt L)->Kept (frs (env::outer)) [ea] s.heap h'->s.heap.get? T'=none->Q () { s with heap:=h' }):wpAny M A (noteFrame (.ref ea) env) Q E s:=by
 obtain ⟨oe,vs,e1,e2,e3,e4,e5,e6⟩:=id r;unfold noteFrame;simp only [hf];refine aa (b4 e1 e4 e5 ?_);rw [aj (by decide)];exact Q7 hfr hl hf r h
theorem TQ (hfr:A.frames=some (env::outer)) (hl:s.heap.FunFrames base (env::outer)) (hf:env.frame=some L) (r:Err s.heap ea T cls od .none)
   (h:∀ h' T',Err h' ea T' cls od (rawInt L)->Kept (frs (env::outer)) [ea,T] s.heap h'->s.heap.get? T'=none->Q () { s with heap:=h' }):wpAny M A (noteFrame (.ref ea) env) Q E s:=by
 have nT:=bpa r.t hl;obtain ⟨⟨oe,vs,e1,e2,e3,e4,e5,e6⟩,⟨oT,ts,t1,t2,t3⟩,ne⟩:=id r;unfold noteFrame;simp only [hf];refine aa (b4 e1 e4 e5 ?_);rw [am (by simp:(Value.ref T != Value.none)=true)];refine aa (b4 t1 t2 t3 ?_);rw [aj (by simp [rawInt])];have k1:Kept (frs (env::outer)) [ea,T] s.heap (s.heap.update T (Obj.mapFields (·.setIfInBounds 3 Value.none))):=Iw t1 t2 (by simp);refine aa (c8 t1 t2 (eL.mp t3).1 ?_);refine Q7 hfr (hl.of_keeps fun b o e nf=>⟨o,?_,rfl⟩) hf (KR r.e ne) fun h' T' r' k2 n=>h h' T' r' (k1.trans (k2.mono (by simp))) ?_
 . by_cases z:b=T
   . subst z;rw [t1] at e;cases e;exact absurd t2 (nf ts)
   . rw [bR _ _ (Ne.symm z)];exact e
 . cases q:s.heap.get? T' with
   | none=>rfl
   | some o =>
     obtain ⟨o',z⟩:=k1.there T' o q;rw [z] at n;cases n
theorem NF (hfr:A.frames=some (env::outer)) (hl:s.heap.FunFrames base (env::outer)) (hf:env.frame=some L) (r:uu s.heap ea cls od .none)
   (h:∀ h' T',Err h' ea T' cls od .none->Kept (frs (env::outer)) [ea] s.heap h'->s.heap.get? T'=none->Q () { s with heap:=h' }):wpAny M A (leaving env (.ref ea)) Q E s:=by
 unfold leaving;refine aa (Yl hfr hl hf r fun h1 T1 r1 k1 n1=>GR (fs:=frs (env::outer)) (s:={ s with heap:=h1 }) r1 fun h2 r2 k2=>h h2 T1 r2 ⟨fun b o e f x=>k2.keep b o (k1.keep b o e f x) f ?_,fun b o e f x=>?_,fun b o e=>?_⟩ n1)
 . simp only [aI];rintro rfl;rw [n1] at e;cases e
 . obtain ⟨s1,e1⟩:=k1.slot b o e f x;obtain ⟨s2,e2⟩:=k2.slot b _ e1 f (by
     simp only [aI];rintro rfl;rw [n1] at e;cases e)
   exact ⟨s2,e2⟩
 . obtain ⟨o1,e1⟩:=k1.there b o e;exact k2.there b o1 e1
theorem Zt (hfr:A.frames=some (env::outer)) (hl:s.heap.FunFrames base (env::outer)) (hf:env.frame=some L) (r:Err s.heap ea T cls od .none)
   (h:∀ h' T',Err h' ea T' cls od .none->Kept (frs (env::outer)) [ea,T] s.heap h'->s.heap.get? T'=none->Q () { s with heap:=h' }):wpAny M A (leaving env (.ref ea)) Q E s:=by
 unfold leaving;refine aa (TQ hfr hl hf r fun h1 T1 r1 k1 n1=>GR (fs:=frs (env::outer)) (s:={ s with heap:=h1 }) r1 fun h2 r2 k2=>h h2 T1 r2 ⟨fun b o e f x=>k2.keep b o (k1.keep b o e f x) f ?_,fun b o e f x=>?_,fun b o e=>?_⟩ n1)
 . simp only [aI];rintro rfl;rw [n1] at e;cases e
 . obtain ⟨s1,e1⟩:=k1.slot b o e f x;obtain ⟨s2,e2⟩:=k2.slot b _ e1 f (by
     simp only [aI];rintro rfl;rw [n1] at e;cases e)
   exact ⟨s2,e2⟩
 . obtain ⟨o1,e1⟩:=k1.there b o e;exact k2.there b o1 e1
end
def CXe (P:Program) (w:World):CXT:=fun outer H s E e s'=>∃ (ea T:Addr) (cls:Value) (od:Option Addr) (H':Hp),e=.ref ea/\s'.os=s.os/\AllBare s'.gens/\Un (frs outer) [] H H' s.heap s'.heap/\HOk P w H' s'.heap /\
 H' ea=none/\H' T=none/\s.heap.get? ea=none/\s.heap.get? T=none/\Err s'.heap ea T cls od .none/\E cls od H'
theorem b8 {P:Program} {w:World}:cr (CXe P w):=fun outer H s e s' h=>by
 obtain ⟨_,_,_,_,_,_,_,_,_,_,_,_,_,_,_,z⟩:=h;exact z
theorem DD {P:Program} {w:World} {H:Hp} {h h':Heap} {fs xs:List Addr} (x:HOk P w H h) (k:Kept fs xs h h') (f:∀ b∈fs,H b=none) (u:∀ b∈xs,H b=none):HOk P w H h':=fun a o e=>by
 refine (x a o e).stay (fun b ob hb q=>k.keep b ob q ?_ ?_) (fun _ q=>q) fun _ _ q=>q
 . intro z;rcases hb with rfl|hb
   . rw [f _ z] at e;cases e
   . rw [f _ z] at hb;cases hb
 . intro z;rcases hb with rfl|hb
   . rw [u _ z] at e;cases e
   . rw [u _ z] at hb;cases hb
theorem F7 {P:Program} {w:World} {H:Hp} {h:Heap} {b:Addr} (x:HOk P w H h) (n:h.get? b=none):H b=none:=by
 cases q:H b with
 | none=>rfl
 | some o =>
   have lt:=x.lt q;cases z:h.get? b with
   | some o'=>rw [z] at n;cases n
   | none =>
     exfalso
     have:=(x b o q);cases o with
     | lst xs=>obtain ⟨_,_,_,_,e⟩:=this;rw [n] at e;cases e
     | tup xs=>obtain ⟨_,_,_,ob,e,_⟩:=this;rw [n] at e;cases e
     | dK kvs=>obtain ⟨_,_,_,_,ob,_,_,e,_⟩:=this;rw [n] at e;cases e
     | dT kvs=>obtain ⟨_,_,_,_,ob,_,_,e,_⟩:=this;rw [n] at e;cases e
     | set S m=>obtain ⟨ob,_,_,_,e,_⟩:=this;rw [n] at e;cases e
     | ins C dx fs=>obtain ⟨_,_,_,e,_⟩:=this;rw [n] at e;cases e
     | own y=>obtain ⟨_,e⟩:=this;rw [n] at e;cases e
     | xd fs=>obtain ⟨_,⟨_,_,_,e,_⟩,_⟩:=this;rw [n] at e;cases e
     | rng lo hi=>obtain ⟨_,_,_,e⟩:=this;rw [n] at e;cases e
     | frz ob u=>obtain ⟨e,_⟩:=this;rw [n] at e;cases e
     | tbl ps=>have e:h.get? b=some _:=this;rw [n] at e;cases e
     | met f y=>have e:h.get? b=some _:=this;rw [n] at e;cases e
     | ext φ=>obtain ⟨_,⟨_,e⟩,_⟩:=this;rw [n] at e;cases e
section
variable {P:Program} {w:World} {K:PySem.W.Frag} {mg:Str->Option Value} {base:Heap} {N:List Str} {qual:Str} {scope:Scope} {f:Addr} {cd:Value} {A:Around} {outer:List Env} {s:Shared} {H:Hp} {E:XK}
theorem Js {CX:CXT} {pins:List (Addr × Obj)} {σ:St} {H':Hp} {s':Shared} {h':Heap} {xs:List Addr} (J:Inv (wA CX P w K mg base N qual scope f cd A outer s H E) pins σ H' s') (k:Kept (frs (envOfC qual scope s.heap.objs.size f cd::outer)) xs s'.heap h') (nx:∀ b∈xs,s.heap.get? b=none) :
   Un (frs outer) [] H H' s.heap h':=by
 have b0:Un (frs outer) [] H H' s.heap s'.heap:=J.base;have nl:∀ b o,s.heap.get? b=some o->b ∉ xs:=fun b o e z=>by rw [nx b z] at e;cases e
 have nf:∀ b o,s.heap.get? b=some o->b ∉ frs outer->b ∉ frs (envOfC qual scope s.heap.objs.size f cd::outer):=fun b o e z m=>by
   unfold frs at m z;rw [iG] at m;have:(envOfC qual scope s.heap.objs.size f cd).frame=some s.heap.objs.size:=rfl;rw [this] at m;rcases az.mp m with m|m
   . exact absurd (aw e) (by rw [m];exact dl _)
   . exact z m
 refine ⟨fun b o e n hf hx=>k.keep b o (b0.keep b o e n hf hx) (nf b o e hf) (nl b o e),fun b o e n hf hx=>?_,b0.free,fun b o e hx=>?_,b0.tups,b0.frzs,b0.tbls⟩
 . obtain ⟨sl,e1⟩:=b0.slot b o e n hf hx;by_cases m:b∈frs (envOfC qual scope s.heap.objs.size f cd::outer)
   . obtain ⟨s2,e2⟩:=k.slot b _ e1 m (nl b o e);exact ⟨s2,e2⟩
   . exact ⟨sl,k.keep b _ e1 m (nl b o e)⟩
 . obtain ⟨o1,e1⟩:=b0.there b o e hx;exact k.there b o1 e1
theorem uB {CX:CXT} {pins:List (Addr × Obj)} {σ:St} {H':Hp} {s':Shared} (J:Inv (wA CX P w K mg base N qual scope f cd A outer s H E) pins σ H' s') {b:Addr} (n:s'.heap.get? b=none):s.heap.get? b=none:=by
 cases q:s.heap.get? b with
 | none=>rfl
 | some o =>
   have b0:Un (frs outer) [] H H' s.heap s'.heap:=J.base;obtain ⟨o',e⟩:=b0.there b o q (by simp);rw [n] at e;cases e
theorem gA:Cp (CXe P w) (wA (CXe P w) P w K mg base N qual scope f cd A outer s H E) E:=by
 intro pins σ H1 s1 e s' I h;obtain ⟨ea,T,cls,od,H',rfl,os,bare,un,hok,n1,n2,f1,f2,er,q⟩:=h;have J:=I.call' (ch:=[]) os un hok bare (by simp);refine Zt (base:=base) J.ok.frames J.stack rfl er fun h' T' er' k nT=>?_;have fr:∀ b∈frs (envOfC qual scope s.heap.objs.size f cd::outer),H' b=none:=J.stkFree;refine ⟨ea,T',cls,od,H',rfl,J.os,J.bare,Js J k ?_,DD hok k fr ?_,n1,F7 hok nT,uB I f1,uB J nT,er',q⟩
 . intro b hb;simp only [az,mF,or_false] at hb;rcases hb with rfl|rfl
   . exact uB I f1
   . exact uB I f2
 . intro b hb;simp only [az,mF,or_false] at hb;rcases hb with rfl|rfl
   . exact n1
   . exact n2
end
def WO (X:Cx) (E:XK):Prop:=∀ (pins:List (Addr × Obj)) (σ:St) (H:Hp) (s:Shared) (ea:Addr) (cls:Value) (od:Option Addr) (h':Heap) (tk:Nat),Inv X pins σ H s->(∀ b o,s.heap.get? b=some o->h'.get? b=some o)->s.heap.get? ea=none->uu h' ea cls od .none->E cls od H ->
 X.xe (.ref ea) { s with heap:=h',toks:=tk }
section
variable {P:Program} {w:World} {K:PySem.W.Frag} {mg:Str->Option Value} {base:Heap} {N:List Str} {qual:Str} {scope:Scope} {f:Addr} {cd:Value} {A:Around} {outer:List Env} {s:Shared} {H:Hp} {E:XK}
theorem GQ:WO (wA (CXe P w) P w K mg base N qual scope f cd A outer s H E) E:=by
 intro pins σ H1 s1 ea cls od h' tk I kp nw er q;have J:=I.kept (t':=tk) kp;refine NF (base:=base) J.ok.frames J.stack rfl er fun h2 T' er' k nT=>?_;have fr:∀ b∈frs (envOfC qual scope s.heap.objs.size f cd::outer),H1 b=none:=J.stkFree;refine ⟨ea,T',cls,od,H1,rfl,J.os,J.bare,Js J k ?_,DD J.hok k fr ?_,F7 I.hok nw,F7 J.hok nT,uB I nw,uB J nT,er',q⟩
 . intro b hb;rw [aI.mp hb];exact uB I nw
 . intro b hb;rw [aI.mp hb];exact F7 I.hok nw
end
end L2
namespace L2
open PySem PySem.Spec PyProof.Rows
def LU (K:PySem.W.Frag) (C:Addr):Prop:=∃ (nm qn:Str) (N:Addr) (bs bm:List Value) (hdct:Bool) (sn:List Str) (sub:List Value) (ab:Bool) (col:Option Bool) (dd:Option Addr) (k0 k1 k2 k3 k5:Option Value),
   K.lookup C=some (excClassObj nm qn C N bs bm hdct sn sub ab col dd k0 k1 k2 k3 k5 "ValueError.__new__")/\PySem.W.nsOkIn K N=true/\PySem.W.nsIn K N "__init__"=some none/\PySem.W.tailIn K bmV bm=true
theorem GF {K:PySem.W.Frag} {C:Addr} {o:Obj} (nm qn:Str) (N:Addr) (bs bm:List Value) (hdct:Bool) (sn:List Str) (sub:List Value) (ab:Bool) (col:Option Bool) (dd:Option Addr) (k0 k1 k2 k3 k5:Option Value) (l:K.lookup C=some o)
   (e:o=excClassObj nm qn C N bs bm hdct sn sub ab col dd k0 k1 k2 k3 k5 "ValueError.__new__") (a:PySem.W.nsOkIn K N=true) (b:PySem.W.nsIn K N "__init__"=some none) (c:PySem.W.tailIn K bmV bm=true):LU K C:=by
 subst e;exact ⟨_,_,_,_,_,_,_,_,_,_,_,_,_,_,_,_,l,a,b,c⟩
def W8 (C:Addr) (E:XK) (t:TA):TS:=fun _ σ H=>t σ H fun vs H1=>vs.length<=sizeLine/\E (.ref C) none H1
section
variable {X:Cx} {x:Str} {np cpos pos:Pos} {e0:Expr} {es:List Expr} {t:TA} {C:Addr} {E:XK}
theorem CJ (q:LU X.K C) (hc:X.calm=true) (hR:WO X E) (hg:Gl X x) (hm:X.mg x=some (.ref C)) (ha:PA X (e0::es) t) (hdb:(x == ("__debug__":Str))=false:=by decide)
   (he:starEach (e0::es) X.env=(false,eval e0 X.env)::starEach es X.env:=by rfl) (hpl:(backTo cpos (starEach es X.env)).any (·.1)=false:=by rfl):PS X (.Raise (some (.Call (.Name x np) (e0::es) [] cpos)) none pos) (W8 C E t):=by
 intro pins s σ H D I h;obtain ⟨nm,qn,N,bs,bm,hdct,sn,sub,ab,col,dd,k0,k1,k2,k3,k5,ho,z5,z6,z4⟩:=q;have B:=I.mod.kin;have T0:=lB B z4;have N0:X.base.Ns N (X.base.nsMap N):=.of_isNs (PySem.W.isNs_of_in B z5);have hp:(backTo cpos (starEach (e0::es) X.env)).any (·.1)=false:=by
   rw [he];show (false || (backTo cpos (starEach es X.env)).any (·.1))=false;rw [hpl]
   rfl
 refine wpAny_Raise_call_subT (C:=C) (nm:=nm) (q:=qn) (N:=N) (bs:=bs) (bm:=bm) (hdct:=hdct) (sn:=sn) (sub:=sub) (ab:=ab) (col:=col) (dd:=dd) (k0:=k0) (k1:=k1) (k2:=k2) (k3:=k3) (k5:=k5) hZ
   (T0.hasType (by decide +kernel)) (I.ok.hd hc) hp (PySem.W.nsMap_none_of_in B z5 z6) (uF I hg hm ⟨rfl,?_⟩ hdb)
 have g:=ha cpos pins s σ H _ I h;rw [he] at g ⊢;refine ii (thn g fun us s1 ⟨vs,H1,I1,r1,q1⟩=>⟨rfl,by show us.length<=_;rw [<- r1.length];exact q1.1,I1.bk _ _ (B _ _ ho),N0.keeps I1.bk,T0.keeps I1.bk,fun h' ea m=>?_⟩);obtain ⟨tt,m1,_,_⟩:=m.there;exact hR pins σ H1 s1 ea (.ref C) none h' s1.toks I1 m.keeps m.new ⟨_,_,m1,rfl,rfl,rfl,rfl,rfl⟩ q1.2
end
def XP (CX:CXT) (X:Cx) (pins:List (Addr × Obj)) (σ:St) (E:XK) (e:Value) (s':Shared):Prop:=∃ H s,Inv X pins σ H s/\CX X.stack H s E e s'
def PEx (CX:CXT) (X:Cx) (e:Expr) (t:XK->TE):Prop :=
 ∀ (E:XK) (pins:List (Addr × Obj)) (s:Shared) (σ:St) (H:Hp) (Q:VK),Inv X pins σ H s->t E σ H Q->wpAny (model X.prog X.w) X.A (eval e X.env) (EP X pins σ Q) (XP CX X pins σ E) s
abbrev XS (CX:CXT) (X:Cx) (pins:List (Addr × Obj)) (EK:St->XK) (e:Value) (s':Shared):Prop:=∃ σ,XP CX X pins σ (EK σ) e s'
def PSx (CX:CXT) (X:Cx) (st:Stmt) (t:(St->XK)->TS):Prop :=
 ∀ (EK:St->XK) (pins:List (Addr × Obj)) (s:Shared) (σ:St) (H:Hp) (D:Ends),Inv X pins σ H s->t EK D σ H->wpAny (model X.prog X.w) X.A (exec st X.env) (SP X pins D) (XS CX X pins EK) s
def c8a (CX:CXT) (X:Cx) (st:List Stmt) (t:(St->XK)->TS):Prop :=
 ∀ (EK:St->XK) (pins:List (Addr × Obj)) (s:Shared) (σ:St) (H:Hp) (D:Ends),Inv X pins σ H s->t EK D σ H->wpAny (model X.prog X.w) X.A (execs st X.env) (SP X pins D) (XS CX X pins EK) s
section
variable {CX:CXT} {X:Cx} {k:Nat} {f C:Addr} {fd:FuncData} {ps:List Str} {sp:Sp} {dvs:List V} {ds:List Value} {x:Str} {p pos:Pos} {e:Expr} {es:List Expr} {te:TE} {t:TA} {st:Stmt} {sts:List Stmt} {ts:TS} {tx ux:(St->XK)->TS} {ex:XK->TE}
theorem bla (F:FnOk X.prog X.w X.K X.mg X.base CX k f fd ps sp) (hr:Room k X.A) (hg:Gl X x) (hm:X.mg x=some (.ref f)) (hk:PySem.W.keepIn X.K (.ref f)=true) (hb:Binds X.K fd ps ds) (hd:Vals dvs ds)
   (ha:PA X.nox (e::es) t) (hdb:(x == ("__debug__":Str))=false:=by decide) (he:starEach (e::es) X.env=(false,eval e X.env)::starEach es X.env:=by rfl) (hpl:(backTo pos (starEach es X.env)).any (·.1)=false:=by rfl) :
   PEx CX X (.Call (.Name x p) (e::es) [] pos) (fun E=>OS sp dvs E t):=by
 intro E pins s σ H Q I h;refine dZ (uF I hg hm ?_ hdb);refine k8 (h₀:=X.base) I.ok.mod.kin hk (bg (ha pos pins s σ H _ (I.wish _) h) (fun us s1 ⟨vs,H1,I1,r,q⟩=>⟨I1.unwish.kIn,?_⟩) fun _ _ z=>False.elim z) he hpl;have J:=I1.unwish;have r2:Vals (vs++dvs) (us++ds):=r.append hd;have hl:(us++ds).length=ps.length:=by rw [<- r2.length];exact F.len _ _ _ _ q
 refine fw (g6 (F.run X.A X.stack s1 H1 ⟨us,[]⟩ (us++ds) (vs++dvs) Q E hr J.env0 (hb s1 us J.kIn hl) r2 q) fun r s' hq=>?_);cases r with
 | error e=>exact ⟨H1,s1,J,hq⟩
 | ok fl =>
   cases fl with
   | ret u=>exact J.after hq
   | next=>exact False.elim hq
   | brk=>exact False.elim hq
   | cont=>exact False.elim hq
theorem aEa (h1:PSx CX X st tx):c8a CX X [st] tx:=by
 intro EK pins s σ H D I h;refine mC (thn (h1 EK pins s σ H D I h) fun f s1 q=>?_);cases f with
 | next=>exact fY q
 | ret v=>exact q
 | brk=>exact q
 | cont=>exact q
end
end L2
namespace L2
open PySem PySem.Spec PyProof.Rows
abbrev Cx.held (X:Cx) (e:Value):Cx:={ X with A:=X.A.mark (some e),calm:=false }
theorem Cx.Ok.held {X:Cx} (ok:X.Ok) (e:Value):(X.held e).Ok :=
 ⟨ok.mod,ok.kind,ok.glob,ok.blt,ok.above,ok.inj,ok.has,ok.cab,(fun z=>nomatch z),ok.frames,ok.stk,ok.exf,ok.bs,ok.bsz,ok.noex,ok.exfs,ok.funs,ok.frf⟩
theorem Cx.Ok.unheld {X:Cx} {e:Value} (ok:(X.held e).Ok) (hd:X.calm=true->X.A.handled=none):X.Ok :=
 ⟨ok.mod,ok.kind,ok.glob,ok.blt,ok.above,ok.inj,ok.has,ok.cab,hd,ok.frames,ok.stk,ok.exf,ok.bs,ok.bsz,ok.noex,ok.exfs,ok.funs,ok.frf⟩
section
variable {X:Cx} {pins:List (Addr × Obj)} {σ:St} {H:Hp} {s:Shared}
theorem Inv.held (I:Inv X pins σ H s) (e:Value):Inv (X.held e) pins σ H s:=⟨I.ok.held e,I.os,I.bare,I.base,I.loc,I.cell,I.free,I.freeC,I.pin,I.hok,I.len⟩
theorem Inv.unheld {e:Value} (I:Inv (X.held e) pins σ H s) (hd:X.calm=true->X.A.handled=none):Inv X pins σ H s:=⟨I.ok.unheld hd,I.os,I.bare,I.base,I.loc,I.cell,I.free,I.freeC,I.pin,I.hok,I.len⟩
theorem Inv.moved {xs:List Addr} {h':Heap} {tk:Nat} (I:Inv X pins σ H s) (k:Kept (frs X.stack) xs s.heap h') (nx:∀ b∈xs,H b=none/\X.s₀.heap.get? b=none/\b≠X.env.locals/\(∀ x c,X.env.cells.lookup x=some c->c≠b)/\∀ p∈X.pn++pins,p.1≠b) :
   Inv X pins σ H { s with heap:=h',toks:=tk }:=by
 have old:∀ b o,X.s₀.heap.get? b=some o->b ∉ xs:=fun b o e z=>by rw [(nx b z).2.1] at e;cases e
 have nel:∀ b o,X.s₀.heap.get? b=some o->b≠X.env.locals:=fun b o e z=>absurd (aM (aw e) I.ok.above) (by rw [z];exact dl _);have out:∀ b,b≠X.env.locals->b ∉ X.fs->b ∉ frs X.stack:=fun b h1 h2 z=>(az.mp (I.stkSub b z)).elim h1 h2;have any:∀ b o,s.heap.get? b=some o->b ∉ xs->∃ sl,h'.get? b=some { o with slots:=sl }:=fun b o e z=>by
   by_cases f:b∈frs X.stack
   . exact k.slot b o e f z
   . exact ⟨o.slots,k.keep b o e f z⟩
 have cells:∀ x c v,X.env.cells.lookup x=some c->s.heap.IsCell c v->h'.IsCell c v:=fun x c v e ⟨o,ho,hd⟩=>by
   obtain ⟨sl,q⟩:=any c o ho fun z=>(nx c z).2.2.2.1 x c e rfl;exact ⟨_,q,hd⟩
 refine ⟨I.ok,I.os,I.bare,⟨fun b o e n hf hx=>?_,fun b o e n hf hx=>?_,I.base.free,fun b o e hx=>?_,I.base.tups,I.base.frzs,I.base.tbls⟩,?_,fun x c e=>?_,I.free,I.freeC,fun p hp=>?_,DD I.hok k I.stkFree fun b hb=>(nx b hb).1,I.len⟩
 . exact k.keep b o (I.base.keep b o e n hf hx) (out b (nel b o e) hf) (old b o e)
 . obtain ⟨sl,e1⟩:=I.base.slot b o e n hf hx;obtain ⟨s2,e2⟩:=any b _ e1 (old b o e);exact ⟨s2,e2⟩
 . obtain ⟨o1,e1⟩:=I.base.there b o e hx;exact k.there b o1 e1
 . obtain ⟨m,⟨o,es,ep,ho,r⟩,l⟩:=I.loc;obtain ⟨sl,e1⟩:=any _ o ho fun z=>(nx _ z).2.2.1 rfl;refine ⟨m,⟨_,es,ep,e1,r⟩,fun i x v h1 h2 h3=>?_⟩;obtain ⟨u,r1,l1⟩:=l i x v h1 h2 h3;refine ⟨u,r1,?_⟩;rcases l1 with l1|⟨k1,c,e,z⟩
   . exact .inl l1
   . exact .inr ⟨k1,c,e,cells x c _ e z⟩
 . obtain ⟨v,z⟩:=I.cell x c e;exact ⟨v,cells x c v e z⟩
 . obtain ⟨e,n,ne,nf,d⟩:=I.pin p hp;exact ⟨k.keep p.1 p.2 e (out p.1 ne nf) fun z=>(nx p.1 z).2.2.2.2 p hp rfl,n,ne,nf,d⟩
theorem Inv.young (I:Inv X pins σ H s) {b:Addr} (n:s.heap.get? b=none):X.s₀.heap.get? b=none\/b∈X.ex:=by
 by_cases z:b∈X.ex
 . exact .inr z
 . refine .inl ?_;cases q:X.s₀.heap.get? b with
   | none=>rfl
   | some o =>
     obtain ⟨o',e⟩:=I.base.there b o q z;rw [n] at e;cases e
theorem Inv.apart (I:Inv X pins σ H s) {b:Addr} (n:s.heap.get? b=none):b≠X.env.locals/\(∀ x c,X.env.cells.lookup x=some c->c≠b)/\∀ p∈X.pn++pins,p.1≠b:=by
 refine ⟨?_,fun x c e z=>?_,fun p hp z=>?_⟩
 . rintro rfl;obtain ⟨m,⟨o,es,ep,ho,r⟩,_⟩:=I.loc;rw [n] at ho;cases ho
 . obtain ⟨v,o,ho,hd⟩:=I.cell x c e;rw [z,n] at ho;cases ho
 . obtain ⟨e,_⟩:=I.pin p hp;rw [z,n] at e;cases e
end
section
variable {K:PySem.W.Frag} {C C':Addr} {x:Addr} {ox:Obj} {od:Option Obj} {M:Model} {A:Around} {E:Value->Shared->Prop} {s:Shared} {b:Bool} {Q:Bool->Shared->Prop}
theorem RQ (X:K.In s.heap) (hx:∃ o,s.heap.get? x=some o/\o.cls=.ref C) (c':XCls K C') (m:PySem.W.mroIn K C (.ref C')=some b) (h:Q b s):wpAny M A (excMatches (.ref x) (.ref C')) Q E s:=by
 obtain ⟨o,ho,hc⟩:=hx;obtain ⟨hh,g,dr,t,os⟩:=s;have L0:PySem.W.Looks M hh (typeOf (.ref x)) (.ref C):=hc ▸ (PySem.W.Looks.ld ho).andThen .now;have L1:=km (M:=M) X m;have L2:=km (M:=M) X c'.mb;have L3:=PySem.W.looks_typeIn (M:=M) X c'.ty;have L4:PySem.W.Looks M hh (isSubtype (.type "type") (.type "tuple")) false:=.of_pure tc_notTuple;obtain ⟨cd,e,_⟩:=mG c'.hd;have L5:PySem.W.Looks M hh (isType (.ref C')) true:=by
   unfold PySem.W.clsIn at e;split at e
   . rename_i ho'
     intro A' Q' E' s' k q;unfold isType loadHead;exact aa (wpAny_loadPart (k _ _ (X _ _ ho')) (ao q))
   . cases e
 unfold excMatches isInstance isExcClass;cases b
 all_goals
   repeat lk
   exact h
end
end L2
namespace L2
open PySem PySem.Spec PyProof.Rows
def ExO (ea:Addr) (cls:Value) (od:Option Addr):HO:=.ext fun h=>∃ oe vs,h.get? ea=some oe/\oe.cls=cls/\oe.dict=od/\oe.data=.fields vs/\vs[2]?=some .none
structure Loose (X:Cx) (pins:List (Addr × Obj)) (H:Hp) (b:Addr):Prop where
 un:H b=none
 new:X.s₀.heap.get? b=none
 loc:b≠X.env.locals
 cel:∀ x c,X.env.cells.lookup x=some c->c≠b
 pin:∀ p∈X.pn++pins,p.1≠b
theorem Loose.all {X:Cx} {pins:List (Addr × Obj)} {H:Hp} {b:Addr} (l:Loose X pins H b):H b=none/\X.s₀.heap.get? b=none/\b≠X.env.locals/\(∀ x c,X.env.cells.lookup x=some c->c≠b)/\∀ p∈X.pn++pins,p.1≠b:=⟨l.un,l.new,l.loc,l.cel,l.pin⟩
abbrev TH:=Ends->St->Value->Option Addr->Hp->Prop
def PHs (X:Cx) (hs:List ExceptHandler) (th:TH):Prop:=∀ (pins:List (Addr × Obj)) (s:Shared) (σ:St) (H:Hp) (D:Ends) (ea T:Addr) (cls:Value) (od:Option Addr),Inv X pins σ H s->Err s.heap ea T cls od .none->Loose X pins H ea->Loose X pins H T ->
 th D σ cls od H->wpAny (model X.prog X.w) X.A (handleBy (.ref ea) X.env hs) (SP X pins D) X.xe s
def Ends.less (D:Ends) (i:Nat):Ends:={ nx:=fun σ H=>D.nx (σ.set i none) H,rt:=D.rt,bk:=fun σ H=>D.bk (σ.set i none) H,ct:=fun σ H=>D.ct (σ.set i none) H }
def eBa (K:PySem.W.Frag) (C':Addr) (i:Nat) (ts:TS) (tr:TH):TH:=fun D σ cls od H=>∃ C b,cls=.ref C/\PySem.W.mroIn K C (.ref C')=some b /\
 if b=true then ∀ ea,H ea=none->ts (D.less i) (σ.set i (some (.ref ea))) (upd H ea (ExO ea cls od)) else tr D σ cls od H
def tNoHand:TH:=fun _ _ _ _ _=>False
section
variable {X:Cx} {x n:Str} {np pos:Pos} {i:Nat} {C':Addr} {b0:Stmt} {suite:List Stmt} {gm:List ExceptHandler} {ts:TS} {tr:TH}
theorem doa:PHs X [] tNoHand:=fun _ _ _ _ _ _ _ _ _ _ _ _ _ h=>h.elim
def ega (tb:(St->XK)->TS) (th:TH):TS:=fun D σ H=>tb (fun σ' cls od H'=>th D σ' cls od H') D σ H
theorem ema {body:List Stmt} {h0:ExceptHandler} {hs:List ExceptHandler} {tb:(St->XK)->TS} {th:TH} (hx:X.ex=[]) (hst:X.stack=X.env::X.outer) (hf:X.env.frame=some X.env.locals) (hb:c8a (CXe X.prog X.w) X body tb) (hh:PHs X (h0::hs) th) :
   PS X (.Try body (h0::hs) [] [] pos) (ega tb th):=by
 intro pins s σ H D I h;refine wpAny_Try_except (bg (hb _ pins s σ H D I h) (fun f s1 q=>?_) fun e s' z=>?_)
 . cases f with
   | next=>exact fY q
   | ret v=>exact q
   | brk=>exact q
   | cont=>exact q
 . obtain ⟨σ1,H1,s1,I1,ea,T,cls,od,H',rfl,os,bare,un,hok,n1,n2,f1,f2,er,q⟩:=z;have J:=I1.call' (ch:=[]) os un hok bare (by simp);have fresh:∀ b,s1.heap.get? b=none->H' b=none->Loose X pins H' b:=fun b z u=>by
     obtain ⟨a1,a2,a3⟩:=I1.apart z;refine ⟨u,?_,a1,a2,a3⟩;rcases I1.young z with y|y
     . exact y
     . rw [hx] at y;cases y
   have le:=fresh ea f1 n1;have lt:=fresh T f2 n2;have fr:=J.ok.frames;have st:=J.stack;rw [hst] at fr st;refine TQ fr st hf er fun h2 T2 er2 k2 nT2=>?_;rw [<- hst] at k2;have J2:Inv X pins σ1 H' { s' with heap:=h2 }:=J.moved (tk:=s'.toks) k2 fun b hb=>by
     simp only [az,mF,or_false] at hb;rcases hb with rfl|rfl
     . exact le.all
     . exact lt.all
   have lt2:Loose X pins H' T2:=by
     obtain ⟨a1,a2,a3⟩:=J.apart nT2;refine ⟨F7 hok nT2,?_,a1,a2,a3⟩;rcases J.young nT2 with y|y
     . exact y
     . rw [hx] at y;cases y
   refine GR (fs:=frs X.stack) (s:={ s' with heap:=h2 }) er2 fun h3 er3 k3=>?_;have J3:Inv X pins σ1 H' { s' with heap:=h3 }:=J2.moved (tk:=s'.toks) k3 fun b hb=>by rw [aI.mp hb];exact lt2.all
   exact hh pins _ σ1 H' D ea T2 cls od J3 er3 le lt2 q
end
end L2
namespace L2
open PySem PySem.Spec PyProof.Rows
def Bo (cells:List (Str × Addr)):List (Str × NameKind)->List (Str × Addr)->List (Str × Addr)
 | [],acc=>acc
 | (n,k)::r,acc=>if k == .free then Bo cells r ((n,(cells.lookup n).getD 0)::acc) else Bo cells r acc
theorem U1 {scope:Scope} {env:Env} (h:∀ y∈scope.names,y.2=.free->(env.cells.lookup y.1).isSome=true):closureFor scope env=pure (Bo env.cells scope.names []):=by
 have key:∀ (l:List (Str × NameKind)) (acc:List (Str × Addr)),(∀ y∈l,y.2=.free->(env.cells.lookup y.1).isSome=true) ->
     (forIn l acc fun (y:Str × NameKind) (c:List (Str × Addr))=>(if y.2 == NameKind.free then do let a <- cellOf env y.1;pure (ForInStep.yield ((y.1,a)::c)) else pure (ForInStep.yield c):Sem (ForInStep (List (Str × Addr)))))=(pure (Bo env.cells l acc):Sem (List (Str × Addr))):=by
   intro l
   induction l with
   | nil=>intro acc _;rfl
   | cons y l ih =>
     obtain ⟨n,k⟩:=y;intro acc hh;have h1:=hh (n,k) aO;have h2:∀ y∈l,y.2=.free->(env.cells.lookup y.1).isSome=true:=fun y hy=>hh y (aL _ hy);rw [oN];unfold Bo;cases q:k == NameKind.free with
     | false =>
       simp only [bB,if_false,pure_bind];exact ih acc h2
     | true =>
       obtain ⟨c,hc⟩:=eK.mp (h1 (by simpa using q));dsimp only at hc;simp only [if_true,cellOf,hc,pure_bind,Option.getD_some];exact ih _ h2
 have:=key scope.names [] h;unfold closureFor;simp only [bind_pure];exact this
theorem IY {cells:List (Str × Addr)} {x:Str} {c:Addr}:∀ {l:List (Str × NameKind)} {acc:List (Str × Addr)},(∀ y∈l,y.2=.free->(cells.lookup y.1).isSome=true)->(∀ x c,acc.lookup x=some c->cells.lookup x=some c)->(Bo cells l acc).lookup x=some c->cells.lookup x=some c
 | [],acc,_,h2,h3=>h2 x c h3
 | (n,k)::r,acc,h1,h2,h3=>by
   have h1':∀ y∈r,y.2=.free->(cells.lookup y.1).isSome=true:=fun y hy=>h1 y (aL _ hy);unfold Bo at h3;cases q:k == NameKind.free with
   | false =>
     rw [q] at h3;exact IY h1' h2 (by simpa using h3)
   | true =>
     rw [q] at h3;simp only [if_true] at h3;obtain ⟨a,ha⟩:=eK.mp (h1 (n,k) aO (by simpa using q));dsimp only at ha;rw [ha] at h3;refine IY h1' (fun y d hy=>?_) h3;rw [bW] at hy;cases z:y == n with
     | true =>
       rw [z] at hy;cases hy;rw [eq_of_beq z];exact ha
     | false =>
       rw [z] at hy;exact h2 y d hy
theorem Iz {cells:List (Str × Addr)} {x:Str}:∀ {l:List (Str × NameKind)} {acc:List (Str × Addr)},((∃ c,acc.lookup x=some c)\/(x,NameKind.free)∈l)->∃ c,(Bo cells l acc).lookup x=some c
 | [],acc,h=>by
   rcases h with h|h
   . exact h
   . cases h
 | (n,k)::r,acc,h=>by
   unfold Bo;cases q:k == NameKind.free with
   | false =>
     simp only [bB,if_false];refine Iz ?_;rcases h with h|h
     . exact .inl h
     . rcases az.mp h with z|z
       . cases z;simp at q
       . exact .inr z
   | true =>
     simp only [if_true];refine Iz ?_;by_cases z:x=n
     . subst z;exact .inl ⟨(cells.lookup x).getD 0,by rw [bW];simp⟩
     . rcases h with ⟨c,h⟩|h
       . refine .inl ⟨c,?_⟩;rw [bW];have:(x == n)=false:=(by simpa using z);rw [this];exact h
       . rcases az.mp h with y|y
         . cases y;exact absurd rfl z
         . exact .inr y
theorem vT {env:Env} {x:Str} {k:NameKind}:∀ {l:List (Str × NameKind)},l.lookup x=some k ->
   (l.map fun (n,k)=>if (k == NameKind.free && env.scope.kind == .function && env.kindOf n == some .cell) then (n,NameKind.cell) else (n,k)).lookup x=some (if (k == NameKind.free && env.scope.kind == .function && env.kindOf x == some .cell) then NameKind.cell else k)
 | [],h=>by simp at h
 | (n,j)::r,h=>by
   have ih:=@vT env x k r;rw [aW];rw [bW] at h;cases z:x == n with
   | true =>
     rw [z] at h;cases h;have e:=eq_of_beq z;subst e;by_cases q:(k == NameKind.free && env.scope.kind == .function && env.kindOf x == some .cell)=true
     . simp only [q,if_true,bW,z]
     . simp only [q,if_false,bW,z,bB]
   | false =>
     rw [z] at h;dsimp only;by_cases q:(j == NameKind.free && env.scope.kind == .function && env.kindOf n == some .cell)=true
     . rw [am q,bW,z];exact ih h
     . rw [aj q,bW,z];exact ih h
theorem wu {X:Cx} {Nc:List Str} {scope:Scope} (own:Nat) (js:List Nat) (hc:∀ y∈scope.names,y.2≠.cell) (hk:scope.kind=.function) (hn:∀ y∈scope.names,y.2=.local->scope.names.lookup y.1=some .local) (hl:Nc.length=own+js.length)
   (hf:∀ y∈scope.names,y.2=.free->X.env.scope.names.lookup y.1=some .cell) (hX:X.env.scope.kind=.function) (hcell:∀ x,X.env.scope.names.lookup x=some .cell->∃ c,X.env.cells.lookup x=some c)
   (hU:∀ i,i<js.length->∃ x j,Nc[own+i]?=some x/\js[i]?=some j/\X.N[j]?=some x/\scope.names.lookup x=some .free):CompTxt X Nc own js scope (Bo X.env.cells scope.names []):=by
 have hs:∀ y∈scope.names,y.2=.free->(X.env.cells.lookup y.1).isSome=true:=fun y hy e=>by
   obtain ⟨c,q⟩:=hcell _ (hf y hy e);rw [q]
   rfl
 have free_cell:∀ x,scope.names.lookup x=some .free->X.env.scope.names.lookup x=some .cell:=fun x h=>hf (x,.free) (cZ h) rfl;refine ⟨U1 hs,hk,hc,hn,fun x c h=>IY hs (fun x c z=>by simp at z) h,fun x h=>?_,hl,fun i x h=>?_⟩
 . cases q:scope.names.lookup x with
   | none =>
     exfalso
     have:(relabel scope X.env).names.lookup x=none:=by
       unfold relabel;dsimp only
       revert q
       generalize scope.names=l
       induction l with
       | nil=>intro _;rfl
       | cons y l ih =>
         obtain ⟨n,k⟩:=y;intro q;rw [bW] at q;cases z:x == n with
         | true=>rw [z] at q;cases q
         | false =>
           rw [z] at q;rw [aW];dsimp only;by_cases w:(k == NameKind.free && X.env.scope.kind == .function && X.env.kindOf n == some .cell)=true
           . rw [am w,bW,z];exact ih q
           . rw [aj w,bW,z];exact ih q
     rw [this] at h;rcases h with h|h <;> cases h
   | some k =>
     have r:(relabel scope X.env).names.lookup x=some _:=vT (env:=X.env) q;cases k with
     | free=>exact Iz (.inr (cZ q))
     | cell=>exact absurd rfl (hc _ (cZ q))
     | _ =>
       rw [r] at h;simp at h
 . have hi:i<js.length:=by
     have:=(aB.mp h).1;omega
   obtain ⟨y,j,e1,e2,e3,e4⟩:=hU i hi;rw [h] at e1;cases e1;have fc:=free_cell x e4;refine ⟨j,e2,e3,fc,?_⟩;have r:(relabel scope X.env).names.lookup x=some _:=vT (env:=X.env) e4;rw [r];have:X.env.kindOf x=some .cell:=fc;rw [this,hX]
   rfl
end L2
namespace L2
open PySem PySem.Spec PyProof.Rows
theorem Ue:∀ {ns:List Int} {us:List Value},Vals (ns.map V.int) us->IntsAre us ns
 | [],_,h=>by cases h;exact .nil
 | n::ns,_,h=>by
   cases h with
   | cons r t =>
     obtain ⟨k,rfl⟩:=(show ∃ t,_=Value.int n t from r);exact .cons n k (Ue t)
theorem LH:∀ {ns:List Int} {us:List Value},IntsAre us ns->Vals (ns.map V.int) us
 | _,_,.nil=>.nil
 | _,_,.cons n t r=>.cons ⟨t,rfl⟩ (LH r)
section
variable {X:Cx}
theorem SW:vo X (.builtin "sorted") (fun xs H Q=>∃ (p:Addr) (ns:List Int),xs=[.ref p]/\SqL X.K H p (ns.map V.int)/\ns.length<64/\∀ (l:Addr) (zs:List Int),H l=none->zs.Perm ns->zs.Pairwise (·<=·)->Q (.ref l) (upd H l (.lst (zs.map V.int)))):=by
 intro pins s σ H xs us Q I r h;obtain ⟨p,ns,rfl,hp,h64,q⟩:=h;obtain ⟨u,rfl,ru⟩:=Ax r;cases ru;obtain ⟨its,rv,pl,hz⟩:=I.list hp;have hi:=Ue rv;have e1:=IntsAre.length hi;refine sorted_ints pl.isList hi (by omega) fun out zs a1 a2 a3=>?_;obtain ⟨e,he⟩:=sortedAll_at s.heap its out;have hn:H (s.heap.objs.size+1)=none:=I.hok.fresh (dE _);have ln:zs.length=ns.length:=a2.length_eq;refine ⟨.ref (s.heap.objs.size+1),_,I.laid (a:=s.heap.objs.size+1) (o:=.lst (zs.map V.int)) (t':=s.toks) (fun b o e=>sortedAll_old e) (dE _) ⟨?_,out.toList,e,LH a1,?_⟩,rfl,q _ zs hn a2 a3⟩
 . rw [ak,ln];exact bn (by omega)
 . exact he
end
theorem b1a {K:PySem.W.Frag} {C T:Addr} {c0:Value} {dd:Option Addr} {cd:ClassData} {sl:Array (Option Value)} (h:K.lookup C=some ⟨c0,dd,.cls cd,sl⟩) (m:cd.mro=.ref C::.ref T::bmV) (C':Addr):PySem.W.mroIn K C (.ref C')=some (decide (C'=C) || decide (C'=T)):=by
 unfold PySem.W.mroIn PySem.W.clsIn;rw [h];simp only [mE,m,List.isEmpty_cons,bB,if_false]
 congr 1
 by_cases h1:C'=C
 . subst h1;simp
 . by_cases h2:C'=T
   . subst h2;simp
   . have a:(Value.ref C' == Value.ref C)=false:=(by simpa using h1);have b:(Value.ref C' == Value.ref T)=false:=(by simpa using h2);simp [dB,a,b,h1,h2]
structure XErr (K:PySem.W.Frag) (T C:Addr):Prop where
 x:XCls K C
 mr:∀ C',PySem.W.mroIn K C (.ref C')=some (decide (C'=C) || decide (C'=T))
 mv:PySem.W.mroIn K C (.type "ValueError")=some true
theorem KZ {K:PySem.W.Frag} {C:Addr} {c0:Value} {dd:Option Addr} {cd:ClassData} {sl:Array (Option Value)} {r:List Value} (h:K.lookup C=some ⟨c0,dd,.cls cd,sl⟩) (m:cd.mro=.ref C::r) {v:Value} (hv:(Value.ref C::r).contains v=true):PySem.W.mroIn K C v=some true:=by
 unfold PySem.W.mroIn PySem.W.clsIn;rw [h];simp only [mE,m,List.isEmpty_cons,bB,if_false,hv]
section
variable {K:PySem.W.Frag} {T C:Addr} {c0:Value} {dd:Option Addr} {cd:ClassData} {sl:Array (Option Value)}
theorem TR {r:List Value} (h1:PySem.W.typeIn K (.ref C)=some (.type "type")) (h2:PySem.W.findIn K (.ref C) "__getattribute__"=some (some (.builtin "BaseException.__getattribute__"))) (h3:PySem.W.findIn K (.ref C) "__getattr__"=some none)
   (h4:PySem.W.findIn K (.ref C) "__class__"=some (some (.builtin "object.__class__"))) (h5:PySem.W.specialIn K (.builtin "object.__class__") "__get__"=some (some (.builtin "getset_descriptor.__get__"))) (h6:PySem.W.takesIn K (.builtin "object.__class__")=some true)
   (h7:PySem.W.hasDictIn K C=true) (h:K.lookup C=some ⟨c0,dd,.cls cd,sl⟩) (m:cd.mro=.ref C::r) (a:r.contains (.type "object")=true) (b:r.contains (.type "BaseException")=true):XCls K C :=
 ⟨h1,h2,h3,h4,h5,h6,KZ h m (by rw [dB,a,mY]),KZ h m (by rw [dB,b,mY]),h7,KZ h m (by simp)⟩
structure XTop (K:PySem.W.Frag) (T:Addr):Prop where
 x:XCls K T
theorem csa (h1:PySem.W.typeIn K (.ref C)=some (.type "type")) (h2:PySem.W.findIn K (.ref C) "__getattribute__"=some (some (.builtin "BaseException.__getattribute__"))) (h3:PySem.W.findIn K (.ref C) "__getattr__"=some none)
   (h4:PySem.W.findIn K (.ref C) "__class__"=some (some (.builtin "object.__class__"))) (h5:PySem.W.specialIn K (.builtin "object.__class__") "__get__"=some (some (.builtin "getset_descriptor.__get__"))) (h6:PySem.W.takesIn K (.builtin "object.__class__")=some true)
   (h7:PySem.W.hasDictIn K C=true) (h:K.lookup C=some ⟨c0,dd,.cls cd,sl⟩) (m:cd.mro=.ref C::bmV):XTop K C:=⟨TR h1 h2 h3 h4 h5 h6 h7 h m (by decide +kernel) (by decide +kernel)⟩
theorem yy (h1:PySem.W.typeIn K (.ref C)=some (.type "type")) (h2:PySem.W.findIn K (.ref C) "__getattribute__"=some (some (.builtin "BaseException.__getattribute__"))) (h3:PySem.W.findIn K (.ref C) "__getattr__"=some none)
   (h4:PySem.W.findIn K (.ref C) "__class__"=some (some (.builtin "object.__class__"))) (h5:PySem.W.specialIn K (.builtin "object.__class__") "__get__"=some (some (.builtin "getset_descriptor.__get__"))) (h6:PySem.W.takesIn K (.builtin "object.__class__")=some true)
   (h7:PySem.W.hasDictIn K C=true) (h:K.lookup C=some ⟨c0,dd,.cls cd,sl⟩) (m:cd.mro=.ref C::.ref T::bmV):XErr K T C:=by
 have a:(Value.ref T::bmV).contains (.type "object")=true:=by rw [dB];simp [bmV]
 have b:(Value.ref T::bmV).contains (.type "BaseException")=true:=by rw [dB];simp [bmV]
 have c:(Value.ref T::bmV).contains (.type "ValueError")=true:=by rw [dB];simp [bmV]
 exact ⟨TR h1 h2 h3 h4 h5 h6 h7 h m a b,b1a h m,KZ h m (by rw [dB,c,mY])⟩
end
section
variable {P:Program} {w:World} {K:PySem.W.Frag} {mg:Str->Option Value} {base:Heap}
theorem Fun.okX {x qual:Str} {st:Stmt} {f:Addr} {fd:FuncData} {N ps:List Str} {k:Nat} {sp:Sp} (F:Fun K x qual st f fd) (S:FnScope N ps (ag st)) (len:∀ vs H Q E,sp vs H Q E->vs.length=ps.length)
   (hbody:∀ (cdv:Value) (A:Around) (outer:List Env) (s:Shared) (H:Hp) (vs:List V) (Q:VK) (E:XK),Room k (A.deeper (envOfC qual (ag st) s.heap.objs.size f cdv))->sp vs H Q E ->
     ∃ t,PSs (wA (CXe P w) P w K mg base N qual (ag st) f cdv A outer s H E) (bw st) t/\t { nx:=fun _ H'=>Q .non H',rt:=Q } (start N vs) H):FnOk P w K mg base (CXe P w) (k+1) f fd ps sp:=by
 obtain ⟨oc,od,kV,doc,pm,an,cdv,ct,osl,rfl,lk,hcd⟩:=F.ex;exact bPa lk hcd S len fun A outer s H vs Q E hr hsp=>hbody cdv A outer s H vs Q E hr hsp
end
theorem NJ {C:Addr} {E:XK} {t:TA} {D:Ends} {σ:St} {H:Hp}:W8 C E t D σ H=t σ H fun vs H1=>vs.length<=sizeLine/\E (.ref C) none H1:=rfl
theorem Tr {tb:(St->XK)->TS} {th:TH} {D:Ends} {σ:St} {H:Hp}:ega tb th D σ H=tb (fun σ' cls od H'=>th D σ' cls od H') D σ H:=rfl
theorem Qh {K:PySem.W.Frag} {C':Addr} {i:Nat} {ts:TS} {tr:TH} {D:Ends} {σ:St} {cls:Value} {od:Option Addr} {H:Hp}:eBa K C' i ts tr D σ cls od H=∃ C b,cls=.ref C/\PySem.W.mroIn K C (.ref C')=some b /\
 if b=true then ∀ ea,H ea=none->ts (D.less i) (σ.set i (some (.ref ea))) (upd H ea (ExO ea cls od)) else tr D σ cls od H:=rfl
theorem Same.put {H H':Hp} {l:Addr} (e:Same H H') (n:H l=none) (o:HO):Same H (upd H' l o):=fun b u h=>by rw [aR (dc h n)];exact e b u h
theorem PH (i:Int):∀ ns:List Int,inV (.int i) (ns.map V.int)=decide (i∈ns)
 | []=>by simp [inV]
 | n::ns=>by
   have ih:=PH i ns;unfold inV at ih ⊢;rw [aW,gZ,ih];have e:eqV (.int n) (.int i)=decide (n=i):=by first|rfl|simp [eqV]
   rw [e];by_cases h:i=n
   . subst h;simp
   . simp [h,Ne.symm h]
theorem Nb:∀ ns:List Int,(ns.map V.int).all yh=true
 | []=>rfl
 | n::ns=>by rw [aW,qB,Nb ns];rfl
theorem inL {K:PySem.W.Frag} {neg:Bool} {H:Hp} {p:Addr} {i:Int} {ns:List Int} {Q:VK} (h:H p=some (.lst (ns.map V.int))) (q:Q (.bl (if neg then !decide (i∈ns) else decide (i∈ns))) H):rIn K neg (.int i) (.ref p) H Q:=by
 refine ⟨p,_,rfl,.inl (SqL.of h),rfl,Nb ns,?_⟩;rw [PH];exact q
end L2
namespace L2
open PySem PySem.Spec PyProof.Rows
theorem aAa {M:Model} {A:Around} {E:Value->Shared->Prop} {s:Shared} {env:Env} {x:Str} {px:Pos} {v:Value} {Q:Unit->Shared->Prop} (h:wpAny M A (storeName env x v) Q E s):wpAny M A (assign (.Name x px) env v) Q E s:=by
 show wpAny M A (do standAt px;bindName env x v) Q E s;exact aa (cY (wpAny_bindName h))
section
variable {X:Cx} {Nc:List Str} {own:Nat} {js:List Nat} {scope:Scope} {cl:List (Str × Addr)}
theorem Db {i:Nat} {x:Str} {px pos:Pos} {elt target iter:Expr} {ifs:List Expr} {cpos:Pos} {wi:TI} {g:TG} {tc:TT} {te:TE} (hN:X.N.Nodup) (hxi:X.N[i]?=some x) (hxl:X.env.scope.names.lookup x=some .local) (hc:X.calm=true) (T:CompTxt X Nc own js scope cl)
   (hi:PI X target iter wi) (hg:∀ C s₂ H₁ fp,PG (X.comp Nc scope cl C s₂ H₁ fp) target g) (ht:∀ C s₂ H₁ fp,PTs (X.comp Nc scope cl C s₂ H₁ fp) ifs tc)
   (he:∀ C s₂ H₁ fp,PE (X.comp Nc scope cl C s₂ H₁ fp) elt te) (hs:∀ x,foldedSetIterable iter X.env x=pure x:=by intro _;rfl)
   (hsw:swapsWith (.ListComp elt [⟨target,iter,ifs,0⟩] scope cpos) (some (.Name x px)) pos.line X.env=pure true:=by rfl) :
   PS X (.Assign [.Name x px] (.ListComp elt [⟨target,iter,ifs,0⟩] scope cpos) pos) (Pt (Vw own js wi g tc te) (Dj i)):=by
 intro pins s σ H D I h;rw [exec_Assign_Name_used _ _ _ _ hsw];refine aa (cY (aa ?_));rw [arm_evalThenUse_ListComp];refine aa ?_;refine wpAny_comprehension_free (use:=some (assign (.Name x px) X.env)) rfl hs T.clos T.kind T.names (thn (hi pins s σ H _ I h) fun v s1 h1=>thn h1 fun itv s2 h2=>?_);obtain ⟨it,fp,tn,J,H1,rfl,I1,Tn,st,f1,R⟩:=h2;have hfp:∀ b∈fp,b<s2.heap.objs.size:=fun b hb=>let ⟨o,e,_⟩:=Tn.obj _ _ st b hb;aw e;refine bX (wpAny_newFunctionEnv T.nocell (by intro y hy;simp at hy) (fun h₁ hns₁ hsb₁=>?_) T.kind);dsimp only at hns₁ hsb₁ ⊢;generalize hH2:s2.heap.push { cls:=.type "list",dict:=none,data:=.seq ([]:List Value).toArray }=H2 at hns₁ hsb₁ ⊢;have hC:H2.objs.size=s2.heap.objs.size+1:=by rw [<- hH2,cm]
 have hDC:s2.heap.objs.size≠H2.objs.size:=by rw [hC];exact aE (jm _)
 have hCle:s2.heap.objs.size<=H2.objs.size:=by rw [hC];exact dE _
 have below:∀ b,b<s2.heap.objs.size->b≠H2.objs.size:=fun b hb=>by rw [hC];exact aE (lQ hb)
 have old:∀ b o,s2.heap.get? b=some o->h₁.get? b=some o:=fun b o e=>hsb₁.extBut b o (below b (aw e)) (ap _ (hH2 ▸ ap _ e));have hacc:∃ n,h₁.get? s2.heap.objs.size=some { cls:=.type "list",data:=.seq ([]:List Value).toArray n }:=⟨_,hsb₁.extBut _ _ hDC (ap _ (hH2 ▸ aJ _ rfl))⟩;have st₁:tn 0 h₁:=Tn.keep _ _ _ st fun b _ o e=>old b o e;obtain ⟨W,⟨m0,w0⟩,turn⟩:=R s2.heap.objs.size I1.fresh;have Ic:=Rf (t:=s2.toks+([]:List (Str × Value)).length) T I1 hCle (aA _) hDC f1 hfp old hns₁ hacc;generalize hXc:X.comp Nc scope cl H2.objs.size s2 H1 fp=Xc at Ic;have stat:∀ {H':Hp},(∀ b∈fp,H' b=none)->∀ b∈fp,tU Xc [] H' b:=fun {H'} hn b hb=>by
   subst hXc;exact ⟨hn b hb,below b (hfp b hb),(Lv T I1 hCle f1 hfp).exfs b hb,.inl hb,fun x c e=>(f1 b hb).2.2.2.2.1 x c (T.cells x c e),fun p hp=>by cases hp⟩
 have fr0:∀ b∈fp,upd H1 s2.heap.objs.size (.lst []) b=none:=fun b hb=>by
   rw [aR (aE (hfp b hb))];exact (f1 b hb).1
 have calmc:Xc.calm=true:=by subst hXc;exact hc
 have loop:∀ s₃:Shared,s₃={ s2 with heap:=h₁,toks:=s2.toks+([]:List (Str × Value)).length } ->
     codeAny (model X.prog X.w) X.A (.compLoop (.ListComp elt [⟨target,iter,ifs,0⟩] scope cpos) 0 (.ref it) (.ref s2.heap.objs.size) (compEnvC scope cl H2.objs.size X.env))
       (compPost (model X.prog X.w) X.A X.xe (some (assign (.Name x px) X.env)) (fun _ s'=>wpAny (model X.prog X.w) X.A (pure ()) (fun _ s''=>wpAny (model X.prog X.w) X.A (pure Flow.next) (SP X pins D) X.xe s'') X.xe s') (.ref s2.heap.objs.size) H2.objs.size) s₃:=by
   rintro s₃ rfl;refine Ig (fun n s'=>∃ i ys σ' H',Inv Xc [] σ' H' s'/\tn i s'.heap/\(∀ b∈fp,H' b=none)/\W i n ys σ' H') ?_ m0 ⟨0,[],_,_,Ic,st₁,fr0,w0⟩;rintro n s3 ⟨i,ys,σ3,H3,I3,st3,fr3,w3⟩;rcases turn i n ys σ3 H3 w3 with ⟨stop,q⟩|⟨go,step⟩
   . subst hXc;refine thn (Tn.done (X.comp Nc scope cl H2.objs.size s2 H1 fp) rfl rfl rfl hc i [] s3 σ3 H3 _ I3 (stat fr3) st3 stop) fun r s4 ⟨hr,I4⟩=>?_;subst hr;obtain ⟨m4,hn4,_⟩:=id I4.loc;have J:=ND I1 hCle f1 I4 (h':=s4.heap) (Heap.SameBut.refl _ _);have cl0:H2.objs.size≠X.env.locals:=dI (aM I1.lt hCle);have cy:X.s₀.heap.objs.size<=H2.objs.size:=bP I1.sz hCle;have cc:∀ y c,X.env.cells.lookup y=some c->c≠H2.objs.size:=fun y c e=>by
       obtain ⟨v',o',ho',_⟩:=I1.cell y c e;exact aE (aM (aw ho') hCle)
     have cp:∀ p∈X.pn++pins,p.1≠H2.objs.size:=fun p hp=>by
       obtain ⟨ho',_⟩:=I1.pin p hp;exact aE (aM (aw ho') hCle)
     refine aAa (Np (v:=.ref s2.heap.objs.size) J hN hxi (.inl hxl) rfl (fun s5 I5 ⟨ad,sb,had⟩=>?_) (.inr hxl));have nad:H2.objs.size≠ad:=by
       rcases had with rfl|had
       . exact cl0
       . exact (cc _ _ had).symm
     obtain ⟨oo,es,ep,e1,e2⟩:=hn4;refine ⟨m4,⟨oo,es,ep,(sb.2 _ nad).trans e1,e2⟩,fun h' hs'=>ao (ao ⟨_,H3,?_,q⟩)⟩;exact I5.turned (it:=H2.objs.size) (t':=s5.toks) (fun b o n e=>hs'.extBut b o n e) I4.free cl0 (.inr cy) cc cp
   . subst hXc;refine thn (Tn.item (X.comp Nc scope cl H2.objs.size s2 H1 fp) rfl rfl rfl hc i [] s3 σ3 H3 _ I3 (stat fr3) st3 go) fun r s4 ⟨u,hr,h4⟩=>?_;subst hr;refine thn h4 fun _ s5 ⟨x,H5,I5,r5,y5,st5,fr5⟩=>?_;have I5':=I5.pinned (stat fr5) (Tn.obj _ _ st5);have back:∀ {σ7:St} {H7:Hp} {s7:Shared},Inv (X.comp Nc scope cl H2.objs.size s2 H1 fp) ([]++BW fp s5.heap) σ7 H7 s7->Inv (X.comp Nc scope cl H2.objs.size s2 H1 fp) [] σ7 H7 s7/\tn (i+1) s7.heap/\∀ b∈fp,H7 b=none:=fun {σ7 H7 s7} I7=>by
       refine ⟨I7.unpinned,Tn.keep _ _ _ st5 fun b hb o e=>(I7.pin (b,o) (aV _ (aV _ (rR hb e)))).1,fun b hb=>?_⟩;obtain ⟨o,e,d⟩:=Tn.obj _ _ st5 b hb;exact (I7.pin (b,o) (aV _ (aV _ (rR hb e)))).2.1
     refine thn (hg _ _ _ _ _ s5 σ3 H5 x u _ I5' r5 (step x H5 y5)) fun _ s6 ⟨σ6,H6,I6,q6⟩=>?_;refine LV (ht _ _ _ _ _ s6 σ6 H6 _ I6 q6) fun ok s7 H7 I7 q7=>?_;cases ok with
     | false =>
       rw [aj aP] at q7 ⊢;obtain ⟨m',hm,w7⟩:=q7;obtain ⟨J1,J2,J3⟩:=back I7;exact ⟨m',hm,i+1,ys,σ6,H7,J1,J2,J3,w7⟩
     | true =>
       rw [am rfl] at q7 ⊢;refine dg (he _ _ _ _ _ s7 σ6 H7 _ I7 q7) fun y s8 yv H8 I8 r8 ⟨hp8,hl8,m',hm,w8⟩=>?_;refine thn (eI _ s8 σ6 H8 (.ref s2.heap.objs.size) [yv] _ [y] (fun v' H'=>W (i+1) m' (ys++[yv]) σ6 H') I8 rfl (.cons r8 .nil) ⟨_,ys,yv,rfl,rfl,hp8,hl8,w8⟩) fun v9 s9 ⟨_,H9,I9,_,w9⟩=>?_;obtain ⟨J1,J2,J3⟩:=back I9;exact ⟨m',hm,i+1,ys++[yv],σ6,H9,J1,J2,J3,w9⟩
 exact codeAny_compStart_list (loop _ rfl) (Tn.self _ 0 _ _ _ st₁ (loop _ rfl))
end
end L2
namespace L2
open PySem PySem.Spec PyProof.Rows
theorem zj {K:PySem.W.Frag} {H:Hp}:∀ ns:List Int,DeepAll K H (ns.map V.int) (ns.map PyData.int)
 | []=>.nil
 | n::ns=>.cons (.int n) (zj ns)
theorem AF {K:PySem.W.Frag} {H:Hp} {l:Addr} {ns:List Int} (h:H l=some (.lst (ns.map V.int))):Deep K H (.ref l) (.list (ns.map PyData.int)):=.lst (SqL.of h) (zj ns)
theorem HF:∀ ns:List Int,PyData.eqvAll (ns.map PyData.int) (ns.map PyData.int)=true
 | []=>by simp [PyData.eqvAll]
 | n::ns=>by
   simp only [aW,PyData.eqvAll];rw [HF ns];simp [PyData.eqv]
theorem pR:∀ ns:List Int,PyData.depthAll (ns.map PyData.int)<=1
 | []=>by simp [PyData.depthAll]
 | n::ns=>by
   simp only [aW,PyData.depthAll];have:=pR ns;have:(PyData.int n).depth<=1:=by simp [PyData.depth]
   omega
end L2
namespace Pb
open L2 PySem
def front (r:Int) (par:Int->Int) (p:Int):V:=if p=r then .non else .int (par p)
def dA (m:Int) (rs:List Road) (fv:V) (p:Int):List Int:=(nO m rs p).filter fun v=>decide (V.int v≠fv)
variable {m:Int} {rs:List Road} {r:Int} {par:Int->Int} {dep:Int->Nat}
theorem Rooted.ne (R:Rooted m rs r par dep) {v:Int} (h0:0<=v) (h1:v<m) (hr:v≠r):par v≠v:=fun z=>by
 have:=(R.up v h0 h1 hr).2.2;rw [z] at this;omega
theorem nB (g:Good m rs) (R:Rooted m rs r par dep) {p v:Int} (p0:0<=p) (p1:p<m):v∈dA m rs (front r par p) p↔(0<=v/\v<m)/\v≠r/\par v=p:=by
 unfold dA;rw [d9,CL g,ck]
 constructor
 . rintro ⟨ad,hf⟩;obtain ⟨_,hv,_⟩:=g.adj ad;refine ⟨hv,?_⟩;obtain ⟨x,hx,j⟩:=ad;have key:∀ u w:Int,(u≠r/\par u=w)\/(w≠r/\par w=u)->u=p->w=v->v≠r/\par v=p:=fun u w h e1 e2=>by
     subst e1 e2;rcases h with h|h
     . exfalso
       apply hf;unfold front;rw [aj h.1,h.2]
     . exact h
   rcases j with ⟨a,b⟩|⟨a,b⟩
   . exact key x.a x.b (R.road x hx) a b
   . exact key x.b x.a (R.road x hx).symm a b
 . rintro ⟨hv,hr,hp⟩;have u:=R.up v hv.1 hv.2 hr;rw [hp] at u;refine ⟨?_,fun z=>?_⟩
   . obtain ⟨x,hx,j⟩:=u.2.1;exact ⟨x,hx,j.elim (fun q=>.inr ⟨q.2,q.1⟩) (fun q=>.inl ⟨q.2,q.1⟩)⟩
   . unfold front at z;by_cases c:p=r
     . rw [am c] at z;cases z
     . rw [aj c] at z;have e:v=par p:=(by injection z);have w:=(R.up p p0 p1 c).2.2;have w2:=u.2.2;rw [<- e] at w;omega
theorem DK {fv:V} {p:Int}:(dA m rs fv p).Nodup:=(Kn m rs p).filter _
def nl (m:Int) (par:Int->Int) (ks:List Int):List V:=(below m.toNat).map fun v=>if v∈ks then .int (par v) else .non
def BP (m r:Int) (par:Int->Int):List V:=(below m.toNat).map (front r par)
theorem Aj {ks:List Int}:(nl m par ks).length=m.toNat:=by unfold nl;rw [ak,eD]
theorem rB {n i:Nat} (h:i<n):(below n)[i]?=some (i:Int):=by unfold below;rw [aU,lF h];rfl
theorem WD {ks:List Int} {v:Int} (h0:0<=v) (h1:v<m):(nl m par ks)[v.toNat]?=some (if v∈ks then .int (par v) else .non):=by
 unfold nl;rw [aU,rB (by omega)];show some (if ((v.toNat:Nat):Int)∈ks then V.int (par ((v.toNat:Nat):Int)) else V.non)=_;rw [gf h0]
theorem dYa {ks:List Int} {v:Int} (h0:0<=v) (h1:v<m):(nl m par ks).set v.toNat (.int (par v))=nl m par (ks++[v]):=by
 refine eO fun i=>?_;rw [List.getElem?_set];by_cases c:i<m.toNat
 . have e:∀ l:List Int,(nl m par l)[i]?=some (if (i:Int)∈l then .int (par (i:Int)) else .non):=fun l=>by
     have:=WD (par:=par) (ks:=l) (v:=(i:Int)) (m:=m) (by omega) (by omega)
     rwa [bF] at this
   rw [e,Aj];by_cases z:v.toNat=i
   . have z2:v=(i:Int):=(by omega);rw [am z,am (by omega),e,am (by rw [z2];simp),<- z2]
   . rw [aj z,e];have z2:¬ ((i:Int)=v):=(by omega);simp [z2]
 . have e:∀ l:List Int,(nl m par l)[i]?=none:=fun l=>bJ (by rw [Aj];omega);rw [e,e,Aj];by_cases z:v.toNat=i
   . omega
   . rw [aj z]
structure AInv (m:Int) (rs:List Road) (r:Int) (par:Int->Int) (ks ws:List Int):Prop where
 nd:ks.Nodup
 rng:∀ k∈ks,0<=k/\k<m
 nr:r ∉ ks
 sub:∀ w∈ws,w=r\/w∈ks
 wnd:ws.Nodup
 ok:∀ v∈ks,par v ∉ ws/\(par v=r\/par v∈ks)
 dn:∀ v,0<=v->v<m->v≠r->(par v=r\/par v∈ks)->par v ∉ ws->v∈ks
theorem AInv.start:AInv m rs r par [] [r] where
 nd:=List.nodup_nil
 rng:=fun _ h=>by cases h
 nr:=fun h=>by cases h
 sub:=fun w h=>.inl (aI.mp h)
 wnd:=by simp
 ok:=fun _ h=>by cases h
 dn:=fun v _ _ _ h n=>by
   rcases h with h|h
   . exact absurd (by rw [h];simp) n
   . cases h
theorem AInv.at_ (J:AInv m rs r par ks ws) (r0:0<=r) (r1:r<m) {p:Int} (hp:p∈ws):0<=p/\p<m:=by
 rcases J.sub p hp with h|h
 . rw [h];exact ⟨r0,r1⟩
 . exact J.rng p h
theorem AInv.front (J:AInv m rs r par ks ws) {p:Int} (hp:p∈ws):(if p∈ks then V.int (par p) else V.non)=front r par p:=by
 unfold Pb.front;by_cases c:p=r
 . rw [am c,aj (by rw [c];exact J.nr)]
 . rw [aj c,am ((J.sub p hp).resolve_left c)]
theorem AInv.step (g:Good m rs) (R:Rooted m rs r par dep) (r0:0<=r) (r1:r<m) {ks ws ws':List Int} {p:Int} (J:AInv m rs r par ks ws) (e:ws.Perm (p::ws')):AInv m rs r par (ks++dA m rs (Pb.front r par p) p) (ws'++dA m rs (Pb.front r par p) p):=by
 have hp:p∈ws:=e.mem_iff.mpr aO;have pr:=J.at_ r0 r1 hp;have mk:∀ v,v∈dA m rs (Pb.front r par p) p↔(0<=v/\v<m)/\v≠r/\par v=p:=fun v=>nB g R pr.1 pr.2;have nk:(dA m rs (Pb.front r par p) p).Nodup:=DK;generalize dA m rs (Pb.front r par p) p=kk at mk nk ⊢;have dis:∀ v∈kk,v ∉ ks:=fun v hv z=>(J.ok v z).1 (by rw [((mk v).mp hv).2.2];exact hp);obtain ⟨n1,n2⟩:=ba.mp (e.nodup_iff.mp J.wnd);have sw:∀ w∈ws',w∈ws:=fun w hw=>e.mem_iff.mpr (aL _ hw);refine ⟨?_,?_,?_,?_,?_,?_,?_⟩
 . rw [gI];exact ⟨J.nd,nk,fun a ha b hb z=>dis b hb (z ▸ ha)⟩
 . intro k hk;rcases aY.mp hk with h|h
   . exact J.rng k h
   . exact ((mk k).mp h).1
 . intro z;rcases aY.mp z with h|h
   . exact J.nr h
   . exact ((mk r).mp h).2.1 rfl
 . intro w hw;rcases aY.mp hw with h|h
   . exact (J.sub w (sw w h)).imp id (bp _)
   . exact .inr (aV _ h)
 . rw [gI];refine ⟨n2,nk,fun a ha b hb z=>?_⟩;subst z;rcases J.sub a (sw a ha) with h|h
   . exact ((mk a).mp hb).2.1 h
   . exact dis a hb h
 . intro v hv;rcases aY.mp hv with h|h
   . obtain ⟨o1,o2⟩:=J.ok v h;refine ⟨fun z=>?_,o2.imp id (bp _)⟩;rcases aY.mp z with z|z
     . exact o1 (sw _ z)
     . rcases o2 with o|o
       . exact ((mk _).mp z).2.1 o
       . exact dis _ z o
   . obtain ⟨q1,q2,q3⟩:=(mk v).mp h;rw [q3];refine ⟨fun z=>?_,(J.sub p hp).imp id (bp _)⟩;rcases aY.mp z with z|z
     . exact n1 z
     . obtain ⟨w1,w2,w3⟩:=(mk p).mp z;exact R.ne w1.1 w1.2 w2 w3
 . intro v v0 v1 vr h n;have nk2:par v ∉ kk:=fun z=>n (aV _ z);have h':par v=r\/par v∈ks:=h.imp id fun z=>(aY.mp z).resolve_right nk2;by_cases c:par v=p
   . exact aV _ ((mk v).mpr ⟨⟨v0,v1⟩,vr,c⟩)
   . refine bp _ (J.dn v v0 v1 vr h' fun z=>?_);rcases az.mp (e.mem_iff.mp z) with z|z
     . exact c z
     . exact n (bp _ z)
theorem AInv.perm {ks ws ws2:List Int} (J:AInv m rs r par ks ws) (e:ws.Perm ws2):AInv m rs r par ks ws2 where
 nd:=J.nd
 rng:=J.rng
 nr:=J.nr
 sub:=fun w h=>J.sub w (e.mem_iff.mpr h)
 wnd:=e.nodup_iff.mp J.wnd
 ok:=fun v h=>⟨fun z=>(J.ok v h).1 (e.mem_iff.mpr z),(J.ok v h).2⟩
 dn:=fun v h0 h1 hr h n=>J.dn v h0 h1 hr h fun z=>n (e.mem_iff.mp z)
theorem AInv.all (R:Rooted m rs r par dep) {ks:List Int} (J:AInv m rs r par ks []):∀ v,0<=v->v<m->v≠r->v∈ks:=by
 have key:∀ n v,dep v=n->0<=v->v<m->v≠r->v∈ks:=by
   intro n
   induction n with
   | zero =>
     intro v e v0 v1 vr;have:=(R.up v v0 v1 vr).2.2;omega
   | succ n ih =>
     intro v e v0 v1 vr;have u:=R.up v v0 v1 vr;refine J.dn v v0 v1 vr ?_ (by simp);by_cases c:par v=r
     . exact .inl c
     . exact .inr (ih (par v) (by omega) u.1.1 u.1.2 c)
 exact fun v=>key _ v rfl
theorem AInv.done (R:Rooted m rs r par dep) {ks:List Int} (J:AInv m rs r par ks []):nl m par ks=BP m r par:=by
 unfold nl BP;refine ku fun v hv=>?_;have hv':0<=v/\v<m:=by
   unfold below at hv;obtain ⟨k,hk,rfl⟩:=cu.mp hv;have:=cN.mp hk;omega
 unfold Pb.front;by_cases c:v=r
 . rw [am c,aj (by rw [c];exact J.nr)]
 . rw [aj c,am (J.all R v hv'.1 hv'.2 c)]
theorem Z1 (n:Nat) (v:V):(List.replicate n [v]).flatten=List.replicate n v:=by
 induction n with
 | zero=>rfl
 | succ n ih=>rw [cF,fP,ih,cF];rfl
theorem dEa:nl m par []=List.replicate m.toNat V.non:=by
 unfold nl;refine eO fun i=>?_;by_cases c:i<m.toNat
 . rw [aU,rB c,jd,am c];simp
 . rw [bJ (by rw [ak,eD];omega),bJ (by rw [fJ];omega)]
def wn (par:Int->Int):Nat->Int->List Int
 | 0,v=>[v]
 | n+1,v=>v::wn par n (par v)
theorem Rooted.pos (R:Rooted m rs r par dep) {v:Int} (h0:0<=v) (h1:v<m) (hr:v≠r):dep v=dep (par v)+1:=(R.up v h0 h1 hr).2.2.symm
theorem K9 (R:Rooted m rs r par dep):∀ (n:Nat) (v:Int),dep v=n->0<=v->v<m->(wn par n v).Nodup/\(∀ x∈wn par n v,(0<=x/\x<m)/\dep x<=n)/\(wn par n v).length=n+1
 | 0,v,e,h0,h1=>⟨by unfold wn;simp,fun x hx=>by
     unfold wn at hx;rw [aI.mp hx];exact ⟨⟨h0,h1⟩,by omega⟩,rfl⟩
 | n+1,v,e,h0,h1=>by
   have hr:v≠r:=fun z=>by rw [z,R.root] at e;omega
   have u:=R.up v h0 h1 hr;obtain ⟨i1,i2,i3⟩:=K9 R n (par v) (by omega) u.1.1 u.1.2;unfold wn;refine ⟨ba.mpr ⟨fun z=>?_,i1⟩,fun x hx=>?_,by rw [aQ,i3]⟩
   . have:=(i2 v z).2;omega
   . rcases az.mp hx with rfl|hx
     . exact ⟨⟨h0,h1⟩,by omega⟩
     . exact ⟨(i2 x hx).1,by have:=(i2 x hx).2;omega⟩
theorem Xz (R:Rooted m rs r par dep) {v:Int} (h0:0<=v) (h1:v<m):dep v+1<=m.toNat:=by
 obtain ⟨i1,i2,i3⟩:=K9 R _ v rfl h0 h1;have:=gX (m:=m) (by omega) i1 fun x hx=>(i2 x hx).1;omega
theorem PL {v:Int} (h0:0<=v) (h1:v<m):(BP m r par)[v.toNat]?=some (front r par v):=by
 unfold BP;rw [aU,rB (by omega)];show some (front r par ((v.toNat:Nat):Int))=_;rw [gf h0]
theorem LY (g:Good m rs) (R:Rooted m rs r par dep) {v:Int} (h0:0<=v) (h1:v<m) (hr:v≠r):∃ k,cS rs v (par v)=some k/\2<=k/\k<=1000000:=by
 obtain ⟨x,hx,j⟩:=(R.up v h0 h1 hr).2.1;obtain ⟨i,hi⟩:=cG hx;have ok:=g.ok x hx;rw [Ak g hi j];unfold jp;by_cases c:x.a=v/\x.b=par v
 . rw [am c];exact ⟨_,rfl,ok.t0,ok.t1⟩
 . rw [aj c];have c2:x.a=par v/\x.b=v:=by
     rcases j with j|j
     . exact absurd j c
     . exact ⟨j.2,j.1⟩
   rw [am c2];exact ⟨_,rfl,ok.u0,ok.u1⟩
def xp (m:Int) (rs:List Road) (r:Int) (par:Int->Int):Nat->Int->List Int
 | 0,v=>[v]
 | n+1,v=>v::(dA m rs (front r par v) v).flatMap (xp m rs r par n)
def uk (m:Int) (rs:List Road) (r:Int) (par:Int->Int) (dep:Int->Nat) (v:Int):List Int:=xp m rs r par (m.toNat - 1 - dep v) v
theorem Ce {f h:Int->List Int}:∀ {l:List Int},(∀ x∈l,f x=h x)->l.flatMap f=l.flatMap h
 | [],_=>rfl
 | a::l,e=>by rw [dP,dP,e a aO,Ce fun x hx=>e x (aL _ hx)]
theorem MK (g:Good m rs) (R:Rooted m rs r par dep) {v:Int} (h0:0<=v) (h1:v<m):uk m rs r par dep v=v::(dA m rs (front r par v) v).flatMap (uk m rs r par dep):=by
 have mk:∀ u,u∈dA m rs (front r par v) v->(0<=u/\u<m)/\u≠r/\par u=v:=fun u=>(nB g R h0 h1).mp;have du:∀ u∈dA m rs (front r par v) v,dep u=dep v+1/\dep u+1<=m.toNat:=fun u hu=>by
   obtain ⟨w1,w2,w3⟩:=mk u hu;have:=R.pos w1.1 w1.2 w2;rw [w3] at this;exact ⟨this,Xz R w1.1 w1.2⟩
 unfold uk;cases e:m.toNat - 1 - dep v with
 | zero =>
   have:dA m rs (front r par v) v=[]:=jS.mpr fun u hu=>by
     have:=du u hu;omega
   rw [this]
   rfl
 | succ n =>
   show v::(dA m rs (front r par v) v).flatMap (xp m rs r par n)=_;rw [Ce fun u hu=>show xp m rs r par n u=xp m rs r par (m.toNat - 1 - dep u) u by rw [show m.toNat - 1 - dep u=n by have:=du u hu;omega]]
def up (par:Int->Int):Nat->Int->Int
 | 0,x=>x
 | k+1,x=>par (up par k x)
theorem Ku {f:Int->List Int}:∀ {l:List Int},l.Nodup->(∀ u∈l,(f u).Nodup)->(∀ u∈l,∀ w∈l,∀ x,x∈f u->x∈f w->u=w)->(l.flatMap f).Nodup
 | [],_,_,_=>by simp
 | a::l,n,h1,h2=>by
   obtain ⟨n1,n2⟩:=ba.mp n;rw [dP,gI];refine ⟨h1 a aO,Ku n2 (fun u hu=>h1 u (aL _ hu)) (fun u hu w hw=>h2 u (aL _ hu) w (aL _ hw)),fun x hx y hy z=>?_⟩;subst z;obtain ⟨w,hw,hxw⟩:=ji.mp hy;have:=h2 a aO w (aL _ hw) x hx hxw;exact n1 (this ▸ hw)
theorem To (g:Good m rs) (R:Rooted m rs r par dep):∀ (n:Nat) (v:Int),0<=v->v<m->(xp m rs r par n v).Nodup/\∀ x∈xp m rs r par n v,(0<=x/\x<m)/\∃ k,dep x=dep v+k/\up par k x=v
 | 0,v,h0,h1=>⟨by unfold xp;simp,fun x hx=>by
     unfold xp at hx;rw [aI.mp hx];exact ⟨⟨h0,h1⟩,0,rfl,rfl⟩⟩
 | n+1,v,h0,h1=>by
   have mk:∀ u,u∈dA m rs (front r par v) v->(0<=u/\u<m)/\u≠r/\par u=v:=fun u=>(nB g R h0 h1).mp;have nk:(dA m rs (front r par v) v).Nodup:=DK;have ih:=fun u hu=>To g R n u (mk u hu).1.1 (mk u hu).1.2;have du:∀ u∈dA m rs (front r par v) v,dep u=dep v+1:=fun u hu=>by
     obtain ⟨w1,w2,w3⟩:=mk u hu;have:=R.pos w1.1 w1.2 w2;rw [w3] at this;exact this
   unfold xp;refine ⟨ba.mpr ⟨fun z=>?_,Ku nk (fun u hu=>(ih u hu).1) fun u hu w hw x hx hy=>?_⟩,fun x hx=>?_⟩
   . obtain ⟨u,hu,hv⟩:=ji.mp z;obtain ⟨_,k,e,_⟩:=(ih u hu).2 v hv;have:=du u hu;omega
   . obtain ⟨_,k1,e1,f1⟩:=(ih u hu).2 x hx;obtain ⟨_,k2,e2,f2⟩:=(ih w hw).2 x hy;have d1:=du u hu;have d2:=du w hw;have:k1=k2:=(by omega);rw [<- f1,<- f2,this]
   . rcases az.mp hx with rfl|hx
     . exact ⟨⟨h0,h1⟩,0,rfl,rfl⟩
     . obtain ⟨u,hu,hv⟩:=ji.mp hx;obtain ⟨xr,k,e,f⟩:=(ih u hu).2 x hv;exact ⟨xr,k+1,by rw [e,du u hu];omega,by show par (up par k x)=v;rw [f];exact (mk u hu).2.2⟩
theorem aQa (g:Good m rs) (R:Rooted m rs r par dep) {v:Int} (h0:0<=v) (h1:v<m):(uk m rs r par dep v).length<=24:=by
 obtain ⟨n1,n2⟩:=To g R (m.toNat - 1 - dep v) v h0 h1;have:=gX (m:=m) (by omega) n1 fun x hx=>(n2 x hx).1;have:=g.m24;unfold uk;omega
end Pb
namespace L2
open PySem PySem.Spec PyProof.Rows
def Itv (K:PySem.W.Frag) (a:Addr) (n:Nat):It :=
 ⟨fun i H=>i<n/\∃ xs x,SqL K H a xs/\xs[n - 1 - i]?=some x,fun i H x H'=>H'=H/\∀ xs,SqL K H a xs->xs[n - 1 - i]?=some x,fun i H=>n<=i⟩
theorem Yy {P:Program} {w:World} {K:PySem.W.Frag} {tg:Expr} (a it:Addr) (n:Nat):Turn P w K tg (Itv K a n) [it] it (fun i h=>i<=n/\h.IsRevIter it a ((n:Int) - 1 - (i:Int))) where
 mem:=by simp
 obj:=fun i h st b hb=>by
   have e:b=it:=by simpa using hb
   subst e;obtain ⟨_,o,e,c,d⟩:=st;exact ⟨o,e,fun v z=>by rw [d] at z;cases z⟩
 keep:=fun i h h' st k=>⟨st.1,st.2.at fun o e=>k it (by simp) o e⟩
 item:=by
   intro X hP hw hK hc i pins s σ H E I hf st hg;subst hP hw hK;obtain ⟨hi,xs,x,hq,hx⟩:=hg;obtain ⟨its,rv,p,hz⟩:=I.list hq;obtain ⟨u,hu,ru⟩:=rv.get hx;obtain ⟨f0,f1,f2,f3,f4,f5⟩:=hf it (by simp);have e0:(n:Int) - 1 - (i:Int)=((n - 1 - i:Nat):Int):=by omega
   have st2:=st.2;rw [e0] at st2;refine wpAny_pyNext_rev_item st2 p.isList (x:=u) (by simpa using hu) fun h' st' sb=>?_;have I1:Inv X pins σ H { s with heap:=h' }:=I.turned (t':=s.toks) (fun b o hb e=>(sb.2 b hb).trans e) f0 f1 f3 f4 f5;obtain ⟨o,e,c,d⟩:=id st';have e1:((n - 1 - i:Nat):Int) - 1=(n:Int) - 1 - ((i+1:Nat):Int):=by omega
   rw [e1] at st';exact ⟨u,rfl,OP (s:={ s with heap:=h' }) e c d (by decide) ⟨x,H,I1,ru,⟨rfl,fun ys hy=>by rw [I.list_inj hy hq];exact hx⟩,⟨hi,st'⟩,fun b hb=>(hf b hb).1⟩⟩
 done:=by
   intro X hP hw hK hc i pins s σ H E I hf st hg;subst hP hw hK;have hg':n<=i:=hg;obtain ⟨f0,f1,f2,f3,f4,f5⟩:=hf it (by simp);have st2:=st.2;have st1:=st.1;rw [show (n:Int) - 1 - (i:Int)=-1 by omega] at st2;exact wpAny_pyNext_rev_end (I.ok.hd hc) st2 fun h' eb=>⟨rfl,I.turned (t':=s.toks) (fun b o hb e=>eb b o hb e) f0 f1 f3 f4 f5⟩
 self:=fun _ _ _ _ _ st h=>j1 st.2 h
def a3a (K:PySem.W.Frag) (tl:TE):TI:=fun σ H R=>tl σ H fun x H1=>∃ a xs,x=.ref a/\SqL K H1 a xs/\R (Itv K a xs.length) H1
section
variable {X:Cx} {tg e:Expr} {te:TE} {p2 pos:Pos}
theorem J0 (hg:Gl X "reversed") (hm:X.mg "reversed"=none) (he:PE X e te) (h2:starEach [e] X.env=[(false,eval e X.env)]:=by rfl):PI X tg (.Call (.Name "reversed" p2) [e] [] pos) (a3a X.K te):=by
 intro pins s σ H R I h;refine Call_ (pS I hg hm boot_reversed (bQ ?_ h2 rfl));rw [h2];show wpAny _ _ (spliced ((false,eval e X.env)::backTo pos [])) _ _ s;refine fC (dg (he pins s σ H _ I h) fun u s1 x H1 I1 r1 q1=>fQ ?_);obtain ⟨a,ys,ex,sa,q⟩:=q1;subst ex;cases r1;obtain ⟨its,rv,pl,hz⟩:=I1.list sa;refine call_reversed_list pl.isList ?_;have sz:its.toArray.size=ys.length:=by rw [aG,rv.length]
 rw [sz];refine j1 (i:=(ys.length:Int) - 1) (l:=a) ⟨_,aJ _ rfl,rfl,rfl⟩ ?_;refine ⟨s1.heap.objs.size,[s1.heap.objs.size],_,_,H1,rfl,I1.kept (t':=s1.toks) fun b o e=>ap _ e,Yy a _ ys.length,⟨bi _,?_⟩,fun b hb=>?_,q⟩
 . exact ⟨_,aJ _ rfl,rfl,by simp [revObj]⟩
 . have e:b=s1.heap.objs.size:=by simpa using hb
   subst e;exact I1.fpOk (aA _) (I1.hok.fresh (aA _))
end
theorem Jy {K:PySem.W.Frag} {a:Addr} {xs:List V} {g:TG} {tb:TS} {D:Ends} {σ:St} {H:Hp} (Pv:Nat->St->Hp->Prop) (h0:Pv 0 σ H) (hl:∀ i σ H,i<=xs.length->Pv i σ H->SqL K H a xs)
   (hs:∀ (i:Nat) (x:V) (σ:St) (H:Hp) (N:St->Hp->Prop),(∀ σ' H',Pv (i+1) σ' H'->N σ' H')->xs.reverse[i]?=some x->Pv i σ H->g x σ H fun σ2 H2=>tb { D with nx:=N,ct:=N,bk:=D.nx } σ2 H2) (hd:∀ σ H,Pv xs.length σ H->D.nx σ H) :
   yo (Itv K a xs.length) D g tb σ H:=by
 refine ⟨fun i m σ H=>m=xs.length - i/\i<=xs.length/\Pv i σ H,⟨xs.length,by simp,bi _,h0⟩,?_⟩;rintro i m σ H ⟨rfl,hi,p⟩;have q:=hl i σ H hi p;by_cases hlt:i<xs.length
 . have hx:xs[xs.length - 1 - i]?=some xs[xs.length - 1 - i]:=aD (by omega);refine .inr ⟨⟨hlt,xs,_,q,hx⟩,fun σ' H'=>∃ m',m'<xs.length - i/\(m'=xs.length - (i+1)/\i+1<=xs.length/\Pv (i+1) σ' H'),fun σ' H' z=>z,fun x H' y=>?_⟩;obtain ⟨e,y⟩:=y;subst e;exact hs i x σ _ _ (fun σ' H' p'=>⟨xs.length - (i+1),by omega,rfl,hlt,p'⟩) (by rw [dz hlt];exact y xs q) p
 . have e:i=xs.length:=by omega
   subst e;exact .inl ⟨aA _,hd σ H p⟩
end L2
namespace L2
open PySem PySem.Spec PyProof.Rows
def Xe (te:TE):TE:=fun σ H Q=>te σ H fun x H1=>∃ i,x=.int i/\0<=i/\i<=100000/\∀ l,H1 l=none->Q (.ref l) (upd H1 l (.lst ((Pb.below i.toNat).map V.int)))
end L2
namespace L2
open PySem PySem.Spec PyProof.Rows
def eza (_ j:Int):Prop:=0<j/\j<18446744073709551616
theorem Qm {X:Cx}:OpR X (binaryOp .FloorDiv) (rI eza fun i j=>.int (i / j)):=opI fun i j _ _ _ _ _ hc q=>by
 have h1:(0:Int)<j:=hc.1;have h2:j<18446744073709551616:=hc.2;refine floordiv_int (by omega) (by rw [me i (by omega)];exact q) (.inl ?_);have h3:j.natAbs.log2<64:=(Nat.log2_lt (by omega)).mpr (by omega);unfold Builtin.divisionGoesByPylong;have hz:(j == 0)=false:=by simp;omega
 simp only [hz,bB,if_false];have:¬ (j.natAbs.log2 / 30+1 > 300):=by omega
 simp [this]
theorem cfa {X:Cx} (K:PySem.W.Frag) (hK:X.K=K) {es:List Expr} {k:Nat} {pos:Pos} {t:TGs} {n:Nat} (hc:X.calm=true) (h:PGs X es t)
   (hn:(assignEach es X.env).length=n:=by rfl) (hst:(assignEach es X.env).findIdx? (·.1)=none:=by rfl):PG X (.Tuple es k pos) (Pd K n t):=by
 subst hK;exact rf hc h hn hst
theorem ZN {K:PySem.W.Frag} {c d:Bool} {a b p:Addr} {xs zs:List V} {Q:VK} {g:TG} {tc:TT} {te:TE} {σ0:St} {H0:Hp} (Pv:Nat->List V->St->Hp->Prop) (h0:Pv 0 [] σ0 H0) (hl:∀ i ys σ H,Pv i ys σ H->SqX K c H a xs/\SqX K d H b zs)
   (hs:∀ (i:Nat) (x z:V) (ys:List V) (σ:St) (H:Hp) (q:Addr) (N:List V->St->Hp->Prop),(∀ ys' σ' H',Pv (i+1) ys' σ' H'->N ys' σ' H')->xs[i]?=some x->zs[i]?=some z->Pv i ys σ H->H q=none->g (.ref q) σ (upd H q (.tup [x,z])) fun σ2 H2=>tc σ2 H2 fun b H3 =>
     if b=true then te σ2 H3 fun y H4=>H4 p=some (.lst ys)/\ys.length<sizeLine/\N (ys++[y]) σ2 (upd H4 p (.lst (ys++[y]))) else N ys σ2 H3)
   (hd:∀ ys σ H,Pv (min xs.length zs.length) ys σ H->Q (.ref p) H):E6 (Itz K c d a b) p Q g tc te σ0 H0:=by
 refine ⟨fun i m ys σ H=>m=min xs.length zs.length - i/\i<=min xs.length zs.length/\Pv i ys σ H,⟨_,rfl,bi _,h0⟩,?_⟩;rintro i m ys σ H ⟨rfl,hi,pv⟩;obtain ⟨q1,q2⟩:=hl i ys σ H pv;by_cases hlt:i<min xs.length zs.length
 . refine .inr ⟨⟨xs,zs,xs[i]'(by omega),zs[i]'(by omega),q1,q2,aD (by omega),aD (by omega)⟩,fun x H' y=>?_⟩;obtain ⟨p',x',y',hp,rfl,rfl,e1,e2⟩:=y;exact hs i x' y' ys σ H p' (fun ys' σ' H'=>∃ m',m'<min xs.length zs.length - i/\(m'=min xs.length zs.length - (i+1)/\i+1<=min xs.length zs.length/\Pv (i+1) ys' σ' H')) (fun ys' σ' H' pv'=>⟨min xs.length zs.length - (i+1),by omega,rfl,hlt,pv'⟩) (e1 xs q1) (e2 zs q2) pv hp
 . have e:i=min xs.length zs.length:=by omega
   subst e;exact .inl ⟨⟨xs,zs,q1,q2,by omega⟩,hd ys σ H pv⟩
theorem Be {H:Hp} {l:Addr} {xs:List V} {i:Int} {v:V} {Q:Hp->Prop} (h:H l=some (.lst xs)) (i0:0<=i) (i1:i<xs.length) (q:Q (upd H l (.lst (xs.set i.toNat v)))):rSetL (.ref l) (.int i) v H Q :=
 ⟨l,xs,i,i.toNat,rfl,rfl,h,by unfold ixN;rw [am i0,am (by omega)],q⟩
theorem atG {xs:List Int} {i:Int} (i0:0<=i) (i1:i<xs.length):atI (xs.map V.int) i=some (.int (xs.getD i.toNat 0)):=Ck i0 (by
 have h:i.toNat<xs.length:=by omega
 rw [aU,aD h];simp [List.getD,h])
theorem bza (n:Nat) (v:V):(List.replicate n [v]).flatten=List.replicate n v:=by
 induction n with
 | zero=>rfl
 | succ n ih=>rw [cF,fP,ih,cF];rfl
theorem Kc {xs:List Int} {n:Nat} {v:Int} (h:∀ x∈xs,0<=x) (hv:0<=v):∀ x∈xs.set n v,0<=x:=fun x hx=>by
 rcases List.mem_or_eq_of_mem_set hx with h1|h1
 . exact h x h1
 . rw [h1];exact hv
theorem Jd {X:Cx}:dKa X (Mt X.K):=by
 intro pins s σ H x y v u Q I rx ry h;obtain ⟨p,xs,i,z,rfl,rfl,hq,he,q⟩:=h;cases rx;obtain ⟨t,rfl⟩:=ry;obtain ⟨its,r,pl,hz⟩:=I.list hq;obtain ⟨j,h1,h2,h3,h4,h5⟩:=Ln he;obtain ⟨w,ew,rw'⟩:=r.get h2;have hl:=r.length;have hn:=zE;have fin:EP X pins σ Q w s:=⟨z,H,I,rw',q⟩;by_cases h0:0<=i
 . have hj:i.toNat=j:=by
     rw [seqIndex_of h0 h5] at h1;exact bh h1
   exact wpAny_getItem_list pl.isList h0 (by omega) (by rw [hj];simpa using ew) fin
 . have hj:(i+(its.toArray.size:Int)).toNat=j:=by
     rw [seqIndex_neg (by omega) h4] at h1;rw [aG,<- hl];exact bh h1
   exact wpAny_getItem_list_neg pl.isList (by omega) (by rw [aG] <;> omega) (by omega) (by rw [hj];simpa using ew) fin
theorem YD {K:PySem.W.Frag} {a p:Addr} {xs:List V} {Q:VK} {g:TG} {tc:TT} {te:TE} {σ0:St} {H0:Hp} (Pv:Nat->List V->St->Hp->Prop) (h0:Pv 0 [] σ0 H0) (hl:∀ i ys σ H,i<=xs.length->Pv i ys σ H->SqL K H a xs)
   (hs:∀ (i:Nat) (x:V) (ys:List V) (σ:St) (H:Hp) (N:List V->St->Hp->Prop),(∀ ys' σ' H',Pv (i+1) ys' σ' H'->N ys' σ' H')->xs.reverse[i]?=some x->Pv i ys σ H->g x σ H fun σ2 H2=>tc σ2 H2 fun b H3 =>
     if b=true then te σ2 H3 fun y H4=>H4 p=some (.lst ys)/\ys.length<sizeLine/\N (ys++[y]) σ2 (upd H4 p (.lst (ys++[y]))) else N ys σ2 H3)
   (hd:∀ ys σ H,Pv xs.length ys σ H->Q (.ref p) H):E6 (Itv K a xs.length) p Q g tc te σ0 H0:=by
 refine ⟨fun i m ys σ H=>m=xs.length - i/\i<=xs.length/\Pv i ys σ H,⟨xs.length,by simp,bi _,h0⟩,?_⟩;rintro i m ys σ H ⟨rfl,hi,pv⟩;have q:=hl i ys σ H hi pv;by_cases hlt:i<xs.length
 . have hx:xs[xs.length - 1 - i]?=some xs[xs.length - 1 - i]:=aD (by omega);refine .inr ⟨⟨hlt,xs,_,q,hx⟩,fun x H' y=>?_⟩;obtain ⟨e,y⟩:=y;subst e;exact hs i x ys σ _ (fun ys' σ' H'=>∃ m',m'<xs.length - i/\(m'=xs.length - (i+1)/\i+1<=xs.length/\Pv (i+1) ys' σ' H')) (fun ys' σ' H' pv'=>⟨xs.length - (i+1),by omega,rfl,hlt,pv'⟩) (by rw [dz hlt];exact y xs q) pv
 . have e:i=xs.length:=by omega
   subst e;exact .inl ⟨aA _,hd ys σ H pv⟩
end L2
namespace Pb
open L2
def After (par:Int->Int):List Int->List Int->Prop
 | _,[]=>True
 | S,c::t=>par c∈S/\After par (c::S) t
section
variable {m:Int} {rs:List Road} {r:Int} {par:Int->Int} {dep:Int->Nat}
theorem After.mono:∀ {l S S':List Int},(∀ x∈S,x∈S')->After par S l->After par S' l
 | [],_,_,_,_=>trivial
 | c::t,S,S',h,a=>⟨h _ a.1,After.mono (fun x hx=>by
     rcases az.mp hx with e|e
     . exact az.mpr (.inl e)
     . exact aL _ (h x e)) a.2⟩
theorem After.append:∀ {l1 l2 S:List Int},After par S l1->After par S l2->After par S (l1++l2)
 | [],_,_,_,b=>b
 | c::t,l2,S,a,b=>⟨a.1,After.append a.2 (b.mono fun x hx=>aL _ hx)⟩
theorem After.snoc {c:Int}:∀ {l S:List Int},After par S l->(par c∈S\/par c∈l)->After par S (l++[c])
 | [],S,_,h=>⟨h.resolve_right (by simp),trivial⟩
 | d::t,S,a,h=>⟨a.1,After.snoc a.2 (by
     rcases h with h|h
     . exact .inl (aL _ h)
     . rcases az.mp h with e|e
       . exact .inl (az.mpr (.inl e))
       . exact .inr e)⟩
theorem After.up:∀ {A B S:List Int},After par S (A++B)->∀ k∈A,par k∈S\/par k∈A
 | [],_,_,_,k,hk=>by cases hk
 | c::t,B,S,a,k,hk=>by
   rcases az.mp hk with e|e
   . rw [e];exact .inl a.1
   . rcases After.up (A:=t) (B:=B) a.2 k e with h|h
     . rcases az.mp h with h|h
       . exact .inr (by rw [h];exact aO)
       . exact .inl h
     . exact .inr (aL _ h)
structure Order (m r:Int) (par:Int->Int) (t:List Int):Prop where
 nd:(r::t).Nodup
 rng:∀ v∈t,0<=v/\v<m
 all:∀ v,0<=v->v<m->v=r\/v∈t
 af:After par [r] t
theorem Order.ne {t:List Int} (O:Order m r par t) {v:Int} (h:v∈t):v≠r:=fun z=>(ba.mp O.nd).1 (z ▸ h)
theorem Lb (g:Good m rs) (R:Rooted m rs r par dep):∀ (n:Nat) (v:Int) (S:List Int),0<=v->v<m->par v∈S->After par S (xp m rs r par n v)
 | 0,v,S,_,_,h=>⟨h,trivial⟩
 | n+1,v,S,h0,h1,h=>by
   refine ⟨h,?_⟩;have:∀ (ks:List Int) (S:List Int),v∈S->(∀ u∈ks,u∈dA m rs (front r par v) v)->After par S (ks.flatMap (xp m rs r par n)):=by
     intro ks
     induction ks with
     | nil=>intro S _ _;exact trivial
     | cons u ks ih =>
       intro S hv hk;rw [dP];obtain ⟨w1,w2,w3⟩:=(nB g R h0 h1).mp (hk u aO);exact (Lb g R n u S w1.1 w1.2 (by rw [w3];exact hv)).append (ih S hv fun x hx=>hk x (aL _ hx))
   exact this _ _ aO fun u hu=>hu
theorem Uz (g:Good m rs) (R:Rooted m rs r par dep) (r0:0<=r) (r1:r<m) (nd:(uk m rs r par dep r).Nodup) (al:∀ v,v∈uk m rs r par dep r↔0<=v/\v<m):∃ t,uk m rs r par dep r=r::t/\Order m r par t:=by
 have e:=MK g R r0 r1;refine ⟨_,e,?_⟩;rw [e] at nd al;refine ⟨nd,fun v hv=>(al v).mp (aL _ hv),fun v h0 h1=>az.mp ((al v).mpr ⟨h0,h1⟩),?_⟩;have:∀ ks:List Int,(∀ u∈ks,u∈dA m rs (front r par r) r)->After par [r] (ks.flatMap (uk m rs r par dep)):=by
   intro ks
   induction ks with
   | nil=>intro _;exact trivial
   | cons u ks ih =>
     intro hk;rw [dP];obtain ⟨w1,w2,w3⟩:=(nB g R r0 r1).mp (hk u aO);exact (Lb g R _ u [r] w1.1 w1.2 (by rw [w3];exact aO)).append (ih fun x hx=>hk x (aL _ hx))
 exact this _ fun u hu=>hu
def Qf (m:Int) (rs:List Road) (r:Int) (par:Int->Int) (held:Int->Int) (con:Int->Int->Int):Nat->Int->Int
 | 0,v=>held v
 | n+1,v=>held v+((dA m rs (front r par v) v).map fun c=>con c (Qf m rs r par held con n c)).sum
def gat (m:Int) (rs:List Road) (r:Int) (par:Int->Int) (dep:Int->Nat) (held:Int->Int) (con:Int->Int->Int) (v:Int):Int:=Qf m rs r par held con (m.toNat - 1 - dep v) v
variable {held:Int->Int} {con:Int->Int->Int}
theorem Yv (g:Good m rs) (R:Rooted m rs r par dep) {v:Int} (h0:0<=v) (h1:v<m):gat m rs r par dep held con v=held v+((dA m rs (front r par v) v).map fun c=>con c (gat m rs r par dep held con c)).sum:=by
 have mk:∀ u,u∈dA m rs (front r par v) v->(0<=u/\u<m)/\u≠r/\par u=v:=fun u=>(nB g R h0 h1).mp;have du:∀ u∈dA m rs (front r par v) v,dep u=dep v+1/\dep u+1<=m.toNat:=fun u hu=>by
   obtain ⟨w1,w2,w3⟩:=mk u hu;have:=R.pos w1.1 w1.2 w2;rw [w3] at this;exact ⟨this,Xz R w1.1 w1.2⟩
 unfold gat;cases e:m.toNat - 1 - dep v with
 | zero =>
   have:dA m rs (front r par v) v=[]:=jS.mpr fun u hu=>by
     have:=du u hu;omega
   rw [this];simp [Qf]
 | succ n =>
   show held v+_=_;rw [ku fun u hu=>show con u (Qf m rs r par held con n u)=con u (Qf m rs r par held con (m.toNat - 1 - dep u) u) by rw [show m.toNat - 1 - dep u=n by have:=du u hu;omega]]
theorem Z5 {l l':List Int} (h:l.Perm l'):l.sum=l'.sum:=by
 induction h with
 | nil=>rfl
 | cons x _ ih=>rw [lm,lm,ih]
 | swap x y l=>simp only [lm];omega
 | trans _ _ h1 h2=>exact h1.trans h2
def DR (par:Int->Int) (con:Int->Int->Int) (cs:List Int) (v:Int):List Int:=cs.set (par v).toNat (cs.getD (par v).toNat 0+con v (cs.getD v.toNat 0))
structure Sofar (m:Int) (rs:List Road) (r:Int) (par:Int->Int) (dep:Int->Nat) (held:Int->Int) (con:Int->Int->Int) (t cs:List Int):Prop where
 len:(cs.length:Int)=m
 val:∀ v,0<=v->v<m->cs.getD v.toNat 0=held v+((t.filter fun c=>decide (par c=v)).map fun c=>con c (gat m rs r par dep held con c)).sum
theorem Sofar.nil {hs:List Int} (h:(hs.length:Int)=m):Sofar m rs r par dep (fun v=>hs.getD v.toNat 0) con [] hs:=⟨h,fun v _ _=>by simp⟩
theorem R9 (g:Good m rs) (R:Rooted m rs r par dep) {t:List Int} (nd:t.Nodup) (tr:∀ x∈t,(0<=x/\x<m)/\x≠r) {v:Int} (h0:0<=v) (h1:v<m) (hk:∀ k,0<=k->k<m->k≠r->par k=v->k∈t):(t.filter fun c=>decide (par c=v)).Perm (dA m rs (front r par v) v):=by
 refine tH (nd.filter _) DK fun x=>?_;rw [d9,nB g R h0 h1,ck];exact ⟨fun h=>⟨(tr x h.1).1,(tr x h.1).2,h.2⟩,fun h=>⟨hk x h.1.1 h.1.2 h.2.1 h.2.2,h.2.2⟩⟩
theorem Sofar.full (g:Good m rs) (R:Rooted m rs r par dep) {t cs:List Int} (s:Sofar m rs r par dep held con t cs) (nd:t.Nodup) (tr:∀ x∈t,(0<=x/\x<m)/\x≠r) {v:Int} (h0:0<=v) (h1:v<m) (hk:∀ k,0<=k->k<m->k≠r->par k=v->k∈t):cs.getD v.toNat 0=gat m rs r par dep held con v:=by
 rw [s.val v h0 h1,Yv g R h0 h1,Z5 ((R9 g R nd tr h0 h1 hk).map _)]
theorem Sofar.step (g:Good m rs) (R:Rooted m rs r par dep) {t cs:List Int} (s:Sofar m rs r par dep held con t cs) {v:Int} (h0:0<=v) (h1:v<m) (hr:v≠r) (e:cs.getD v.toNat 0=gat m rs r par dep held con v):Sofar m rs r par dep held con (v::t) (DR par con cs v) where
 len:=by unfold DR;rw [cX];exact s.len
 val:=fun u u0 u1=>by
   have pu:=(R.up v h0 h1 hr).1;have sl:=s.len;have vu:=s.val u u0 u1;unfold DR;rw [e];by_cases c:par v=u
   . have hl:u.toNat<cs.length:=(by omega);rw [List.filter_cons_of_pos (by simpa using c),aW,lm,c];rw [show (cs.set u.toNat (cs.getD u.toNat 0+con v (gat m rs r par dep held con v))).getD u.toNat 0=cs.getD u.toNat 0+con v (gat m rs r par dep held con v) by simp [List.getD,hl],vu];omega
   . rw [List.filter_cons_of_neg (by simpa using c),<- vu];have:(par v).toNat≠u.toNat:=(by omega);simp [List.getD,kI this]
theorem Order.places {t:List Int} (O:Order m r par t):∀ x∈t,(0<=x/\x<m)/\x≠r:=fun x hx=>⟨O.rng x hx,O.ne hx⟩
theorem Order.turn (g:Good m rs) (R:Rooted m rs r par dep) {t cs:List Int} (O:Order m r par t) {i:Nat} {v:Int} (s:Sofar m rs r par dep held con (t.drop (t.length - i)) cs) (hv:t.reverse[i]?=some v) :
   ((0<=v/\v<m)/\v≠r)/\cs.getD v.toNat 0=gat m rs r par dep held con v/\Sofar m rs r par dep held con (t.drop (t.length - (i+1))) (DR par con cs v):=by
 have hi:i<t.length:=by
   have:=(aB.mp hv).1
   rwa [bj] at this
 rw [dz hi] at hv;generalize hj:t.length - 1 - i=j at hv;have ej:t.length - i=j+1:=by omega
 have ej':t.length - (i+1)=j:=by omega
 rw [ej] at s;rw [ej'];have hjl:j<t.length:=by omega
 have vm:v∈t:=bd hv;have vp:=O.places v vm;have ed:t.drop j=v::t.drop (j+1):=by
   rw [mx hjl];rw [aD hjl] at hv;cases hv
   rfl
 have es:t=t.take j++v::t.drop (j+1):=by rw [<- ed,gP]
 have ndt:=(ba.mp O.nd).2;have nd2:=ndt;rw [es] at nd2;have av:v ∉ t.take j:=fun z=>(gI.mp nd2).2.2 v z v aO rfl;have e:=s.full g R (ndt.sublist (List.drop_sublist _ _)) (fun x hx=>O.places x (pi hx)) vp.1.1 vp.1.2 fun k k0 k1 kr pk=>by
   rcases O.all k k0 k1 with z|z
   . exact absurd z kr
   . rw [es] at z;rcases aY.mp z with z|z
     . have af:=O.af;rw [es] at af;rcases af.up k z with w|w
       . rw [pk] at w;exact absurd (aI.mp w) vp.2
       . rw [pk] at w;exact absurd w av
     . rcases az.mp z with z|z
       . subst z;exact absurd pk (R.ne k0 k1 kr)
       . exact z
 exact ⟨vp,e,by rw [ed];exact s.step g R vp.1.1 vp.1.2 vp.2 e⟩
def sF (m:Int) (rs:List Road) (r:Int) (par:Int->Int) (dep:Int->Nat) (held:Int->Int) (con:Int->Int->Int):List Int:=(below m.toNat).map (gat m rs r par dep held con)
theorem QY {v:Int} (h0:0<=v) (h1:v<m):(sF m rs r par dep held con).getD v.toNat 0=gat m rs r par dep held con v:=by
 unfold sF;rw [List.getD,aU,rB (by omega),gf h0]
 rfl
theorem Order.done (g:Good m rs) (R:Rooted m rs r par dep) {t cs:List Int} (O:Order m r par t) (s:Sofar m rs r par dep held con t cs):cs=sF m rs r par dep held con:=by
 have sl:=s.len;refine eO fun i=>?_;by_cases h:i<m.toNat
 . have hc:i<cs.length:=by omega
   have e:=s.full g R (ba.mp O.nd).2 O.places (v:=(i:Int)) (by omega) (by omega) fun k k0 k1 kr pk=>(O.all k k0 k1).resolve_left kr;unfold sF;rw [aU,rB h];rw [bF,List.getD,aD hc] at e;rw [aD hc];exact congrArg some e
 . unfold sF;rw [bJ (by omega),bJ (by rw [ak,eD];omega)]
end
end Pb
namespace L2
open PySem PySem.Spec PyProof.Rows
theorem Q4:∀ xs ys:List Int,PyData.eqvAll (xs.map PyData.int) (ys.map PyData.int)=decide (xs=ys)
 | [],[]=>by simp [PyData.eqvAll]
 | [],y::ys=>by simp [PyData.eqvAll]
 | x::xs,[]=>by simp [PyData.eqvAll]
 | x::xs,y::ys=>by
   rw [aW,aW];simp only [PyData.eqvAll];rw [Q4 xs ys];simp [PyData.eqv];by_cases h1:x=y <;> by_cases h2:xs=ys <;> simp [h1,h2]
end L2
namespace L2
open PySem PySem.Spec PyProof.Rows
def eZa (lo st:Int) (n:Nat):It:=⟨fun i _=>i<n,fun i H x H'=>H'=H/\x=.int (lo+i*st),fun i _=>n<=i⟩
def bDa (ta:TA):TI:=fun σ H R=>ta σ H fun vs H1=>∃ i j c:Int,vs=[.int i,.int j,.int c]/\(0<=i/\i<=1000000/\0<=j/\j<=1000000/\0<c/\c<=1000000)/\R (eZa i c (Builtin.Range.rangeSize i j c).toNat) H1
end L2
namespace L2
open PySem PySem.Spec PyProof.Rows
def ZD (K:PySem.W.Frag) (c:Bool):R2:=fun x y H Q=>∃ p xs i v,x=.ref p/\y=.int i/\SqX K c H p xs/\atI xs i=some v/\Q v H
theorem dNa {X:Cx} (c:Bool):IxR X (ZD X.K c):=by
 cases c
 . exact dR
 . exact b9
theorem Tm {X:Cx} (c:Bool) (K:PySem.W.Frag) (h:X.K=K):IxR X (ZD K c):=by subst h;exact dNa c
theorem ixX {K:PySem.W.Frag} {c:Bool} {H:Hp} {p:Addr} {xs:List V} {i:Int} {v:V} {Q:VK} (h:SqX K c H p xs) (e:atI xs i=some v) (q:Q v H):ZD K c (.ref p) (.int i) H Q:=⟨p,xs,i,v,rfl,rfl,h,e,q⟩
theorem a9a {K:PySem.W.Frag} {H:Hp} {p:Addr} {xs:List V} {i:Int} {v:V} {Q:VK} (h:SqT K H p xs) (e:atI xs i=some v) (q:Q v H):VU K (.ref p) (.int i) H Q:=⟨p,xs,i,v,rfl,rfl,h,e,q⟩
end L2
namespace Pb
open L2 PySem
theorem TC {α β:Type} {R:α->β->Prop}:∀ (n:Nat) {l₁:List α} {l₂:List β},Paired R l₁ l₂->Paired R (l₁.take n) (l₂.take n)
 | 0,_,_,_=>by rw [cR,cR];exact .nil
 | _+1,_,_,.nil=>.nil
 | n+1,_,_,.cons x xs=>.cons x (TC n xs)
theorem TW {α β:Type} {R:α->β->Prop}:∀ (n:Nat) {l₁:List α} {l₂:List β},Paired R l₁ l₂->Paired R (l₁.drop n) (l₂.drop n)
 | 0,_,_,h=>h
 | _+1,_,_,.nil=>.nil
 | n+1,_,_,.cons x xs=>TW n xs
theorem Wi {α β:Type} {R:α->β->Prop} {k₁:List α} {k₂:List β} (h:Paired R k₁ k₂):∀ {l₁:List α} {l₂:List β},Paired R l₁ l₂->Paired R (l₁++k₁) (l₂++k₂)
 | _,_,.nil=>h
 | _,_,.cons x xs=>.cons x (Wi h xs)
theorem dwa {α β:Type} {R:α->β->Prop} {ps:List α} {rs:List β} {q:α} {r:β} (n:Nat) (h:Paired R ps rs) (e:R q r):Paired R (ps.take n++q::ps.drop n) (rs.take n++r::rs.drop n):=Wi (.cons e (TW n h)) (TC n h)
theorem Rp (n:Nat):Labels n (below n):=⟨eD n,qb n,fun v h0 h1=>j4.mpr ⟨h0,h1⟩,fun v h=>j4.mp h⟩
theorem Kd {n:Nat} {v:Int} (h0:0<=v) (h1:v<n):(below n).getD v.toNat 0=v:=by
 rw [List.getD,rB (by omega),gf h0]
 rfl
theorem WV {n:Nat} {rows:List Row} {row:Row} (R:Rows n rows) (k:row.k=(n:Int)+1) (ok:RowOk row):Rows (n+1) (rows++[row]):=by
 have rl:=R.len;refine ⟨by rw [au,rl];rfl,fun j r hj=>?_⟩;by_cases hjl:j<rows.length
 . rw [eJ hjl] at hj;exact R.ok j r hj
 . have hj2:j=rows.length:=by
     have:=(aB.mp hj).1;rw [au] at this;simp at this;omega
   rw [hj2,eC (aA _),mq] at hj;cases hj;exact ⟨by rw [hj2,rl];exact k,ok⟩
section
variable {m:Int} {rs:List Road} {r:Int} {par:Int->Int} {dep:Int->Nat}
def hnd (rs:List Road) (par:Int->Int) (v x:Int):Int:=if 0<=x then x / (cS rs v (par v)).getD 1 else x*(cS rs (par v) v).getD 1
theorem TD (g:Good m rs) (R:Rooted m rs r par dep) {v:Int} (h0:0<=v) (h1:v<m) (hr:v≠r):∃ k,cS rs (par v) v=some k/\2<=k/\k<=1000000:=by
 obtain ⟨x,hx,j⟩:=(R.up v h0 h1 hr).2.1;obtain ⟨i,hi⟩:=cG hx;have ok:=g.ok x hx;have jj:uQ x (par v) v:=by
   rcases j with ⟨a,b⟩|⟨a,b⟩
   . exact .inr ⟨b,a⟩
   . exact .inl ⟨b,a⟩
 rw [Ak g hi jj];unfold jp;by_cases c:x.a=par v/\x.b=v
 . rw [am c];exact ⟨_,rfl,ok.t0,ok.t1⟩
 . rw [aj c];have c2:x.a=v/\x.b=par v:=by
     rcases jj with w|w
     . exact absurd w c
     . exact ⟨w.2,w.1⟩
   rw [am c2];exact ⟨_,rfl,ok.u0,ok.u1⟩
def nj (rs:List Road) (fv:V) (p:Int) (i:Nat):List Int:=((below i).filter fun q=>(cS rs p q).isSome).filter fun v=>decide (V.int v≠fv)
theorem Dl (i:Nat):below (i+1)=below i++[(i:Int)]:=by
 unfold below;rw [jQ,aK]
 rfl
theorem Kf (p:Int) (fv:V):nj rs fv p m.toNat=dA m rs fv p:=by
 unfold nj dA;rw [Xy]
theorem U5 {fv:V} {p:Int} {i:Nat} (h1:(cS rs p (i:Int)).isSome=true) (h2:V.int (i:Int)≠fv):nj rs fv p (i+1)=nj rs fv p i++[(i:Int)]:=by
 unfold nj;rw [Dl,fD,fD]
 congr 1
 simp [h1,h2]
theorem Kh {fv:V} {p:Int} {i:Nat} (h:(cS rs p (i:Int)).isSome=true->¬ V.int (i:Int)≠fv):nj rs fv p (i+1)=nj rs fv p i:=by
 unfold nj;rw [Dl,fD,fD];have:([(i:Int)].filter fun q=>(cS rs p q).isSome).filter (fun v=>decide (V.int v≠fv))=[]:=by
   by_cases c:(cS rs p (i:Int)).isSome=true
   . have:=h c;simp [c]
     simpa using this
   . simp [c]
 rw [this,bG]
structure Bfs (m:Int) (rs:List Road) (r:Int) (par:Int->Int) (t:List Int) (k:Nat):Prop where
 J:AInv m rs r par t ((r::t).drop k)
 af:After par [r] t
theorem Bfs.start:Bfs m rs r par [] 0:=⟨AInv.start,trivial⟩
theorem Bfs.step (g:Good m rs) (R:Rooted m rs r par dep) (r0:0<=r) (r1:r<m) {t:List Int} {k:Nat} (b:Bfs m rs r par t k) {p:Int} (hp:(r::t)[k]?=some p):Bfs m rs r par (t++dA m rs (front r par p) p) (k+1):=by
 have hk:=(aB.mp hp).1;have ed:(r::t).drop k=p::(r::t).drop (k+1):=by
   rw [mx hk];rw [aD hk] at hp;cases hp
   rfl
 have J:=b.J.step g R r0 r1 (p:=p) (ws':=(r::t).drop (k+1)) (by rw [ed]);have pr:=b.J.at_ r0 r1 (p:=p) (by rw [ed];exact aO);have pm:p∈r::t:=bd hp;refine ⟨?_,?_⟩
 . rw [<- nR,List.drop_append_of_le_length (by omega)];exact J
 . have:∀ (ks l:List Int),(∀ u∈ks,u∈dA m rs (front r par p) p)->After par [r] l->p∈r::l->After par [r] (l++ks):=by
     intro ks
     induction ks with
     | nil=>intro l _ h _;rw [bG];exact h
     | cons u ks ih =>
       intro l hu h hpl;obtain ⟨w1,w2,w3⟩:=(nB g R pr.1 pr.2).mp (hu u aO);have h2:After par [r] (l++[u]):=h.snoc (by
         rw [w3];rcases az.mp hpl with e|e
         . exact .inl (by rw [e];exact aO)
         . exact .inr e)
       have:=ih (l++[u]) (fun x hx=>hu x (aL _ hx)) h2 (by
         rcases az.mp hpl with e|e
         . rw [e];exact aO
         . exact aL _ (bp _ e))
       rwa [cq] at this
   exact this _ t (fun u hu=>hu) b.af pm
theorem Bfs.done (R:Rooted m rs r par dep) {t:List Int} {k:Nat} (hk:(r::t).length<=k) (b:Bfs m rs r par t k):Order m r par t:=by
 have J:=b.J;rw [List.drop_eq_nil_of_le hk] at J;refine ⟨ba.mpr ⟨J.nr,J.nd⟩,J.rng,fun v h0 h1=>?_,b.af⟩;by_cases z:v=r
 . exact .inl z
 . exact .inr (J.all R v h0 h1 z)
end
def jg (m:Int) (xs ys:List Int):List Int:=(List.range m.toNat).map fun i=>xs.getD i 0 - ys.getD i 0
theorem MG {m:Int} (h:0<=m) (xs ys:List Int):((jg m xs ys).length:Int)=m:=by unfold jg;rw [ak,iM];omega
end Pb
namespace L2
open PySem PySem.Spec PyProof.Rows
theorem Rg {P:Program} {w:World} {A:Around} {l:Addr} (c:Bool) {it:Addr} (hh:A.handled=none) (ne:l≠it) (its:Array Value):Draws P w A it [it,l] its.size (fun i v=>its[i]?=some v) (fun i h=>zAt l c it i h/\Vf l c h its) where
 live:=fun i h st=>let ⟨o,e,_⟩:=(kZ l c P w).obj _ _ _ st.1;⟨o,e⟩
 frame:=fun i h h' st k=>⟨(kZ l c P w).atK _ _ _ _ st.1 fun o e=>k it (by simp) o e,(kZ l c P w).srcK _ _ _ st.2 fun o e=>k l (by simp) o e⟩
 item:=fun i s Q E hi st hq=>(kZ l c P w).item A s it i its its[i] Q E st.1 st.2 (by simp [hi]) fun h' at' sb=>hq its[i] h' s.toks (by simp [hi]) ⟨at',(kZ l c P w).srcK _ _ _ st.2 fun o e=>sb.extBut _ _ ne e⟩ sb
 done:=fun s Q E st hq=>(kZ l c P w).fin A s it its.size its Q E hh st.1 st.2 (by simp) fun h' e eb he=>hq h' e eb he
section
variable {P:Program} {w:World} {A:Around} {E:Value->Shared->Prop} {s:Shared} {l:Addr} {ob:Obj} {src:Heap->Array Value->Prop} {at':Addr->Nat->Heap->Prop}
abbrev OV (n:Nat):Obj:={ cls:=.type "enumerate",data:=.fields #[.none,.bool false,.ref n,rawInt 0,.none,.none] }
theorem LJ (S:∀ P w,SubF P w l ob src at') (xs:Array Value) :
   Meets (Builtin.«enumerate.__new__» ⟨[.type "enumerate",.ref l],[]⟩) (fun _ R s=>src s.heap xs/\R (.ok (.ret (.ref (s.heap.push ob).objs.size))) { s with heap:=(s.heap.push ob).push (OV s.heap.objs.size) }) :=
 .of_wp fun prog w A R s hyp=>by
   obtain ⟨hp,g,d,tk,os⟩:=s;obtain ⟨q1,r⟩:=hyp;have zsub:=sub_enumerate;have B1:src (Shared.heap ⟨hp,g,d,tk,os⟩) xs:=q1
   wp_walk using ((S prog w).start _ _ _ _ _ B1)
   refine wpAny_stack_any fun st=>?_;dsimp only;refine ao ?_;have go:∀ b:Bool,b=true\/b=false:=fun b=>by cases b <;> simp
   split
   . rename_i c _ _ _ _ _
     rcases go (c == Value.type "enumerate") with z|z
     . rw [z]
       wp_walk using ((S prog w).start _ _ _ _ _ B1)
       exact ⟨_,rfl,r⟩
     . rw [z]
       wp_walk using ((S prog w).start _ _ _ _ _ B1)
       exact ⟨_,rfl,r⟩
   . wp_walk using ((S prog w).start _ _ _ _ _ B1)
     exact ⟨_,rfl,r⟩
theorem Wz (S:∀ P w,SubF P w l ob src at') {xs:Array Value} {Q:Value->Shared->Prop} (q1:src s.heap xs) (f1:ob.isFreed=false)
   (h:∀ h',IsEnum h' (s.heap.objs.size+1) s.heap.objs.size 0 .none->at' s.heap.objs.size 0 h'->(∀ c o,s.heap.get? c=some o->h'.get? c=some o)->Q (.ref (s.heap.objs.size+1)) { s with heap:=h' }) :
   wpAny (model P w) A (call (.type "enumerate") [.ref l]) Q E s:=by
 refine callType_new F.called_enumerate (by decide) (F.typeCall_enumerate_1 _) (F.newCall_enumerate_1 _) (fun obj=>F.args_object_init_2 obj _) F.entry_enumerate_new (LJ S xs) ⟨q1,?_⟩;have n0:(s.heap.push ob).objs.size=s.heap.objs.size+1:=cm ..;have c2:((s.heap.push ob).push (OV s.heap.objs.size)).get? (s.heap.push ob).objs.size=some (OV s.heap.objs.size):=aJ _ rfl;have c1:((s.heap.push ob).push (OV s.heap.objs.size)).get? s.heap.objs.size=some ob:=ap _ (aJ _ f1);show _/\_;rw [n0] at c2;rw [n0];exact ⟨⟨_,c2,rfl⟩,h _ c2 ((S P w).first _ _ c1) fun c o e=>ap _ (ap _ e)⟩
end
def Ite (K:PySem.W.Frag) (c:Bool) (a:Addr):It :=
 ⟨fun i H=>∃ xs x,SqX K c H a xs/\xs[i]?=some x,
  fun i H v H'=>∃ p x,H p=none/\v=.ref p/\H'=upd H p (.tup [.int i,x])/\∀ xs,SqX K c H a xs->xs[i]?=some x,
  fun i H=>∃ xs,SqX K c H a xs/\xs.length=i⟩
theorem WK {P:Program} {w:World} {K:PySem.W.Frag} {elts:List Expr} {x1} {tpos:Pos} (c:Bool) (a e it:Addr) (ne:e≠it) (ae:a≠e) (ai:a≠it) :
   Turn P w K (.Tuple elts x1 tpos) (Ite K c a) [e,it] e (fun i h=>(∃ old,IsEnum h e it (i:Nat) old)/\zAt a c it i h) where
 mem:=by simp
 obj:=fun i h t b hb=>by
   obtain ⟨⟨old,t1⟩,t2⟩:=t;simp only [az,df,or_false] at hb;rcases hb with rfl|rfl
   . exact ⟨_,t1,fun v z=>by cases z⟩
   . exact (kZ a c P w).obj _ _ _ t2
 keep:=fun i h h' t k=>by
   obtain ⟨⟨old,t1⟩,t2⟩:=t;exact ⟨⟨old,k e (by simp) _ t1⟩,(kZ a c P w).atK _ _ _ _ t2 fun o e=>k it (by simp) o e⟩
 item:=fun X e1 e2 e3 hc i pins s σ H E I f t g=>by
   subst e1 e2 e3;obtain ⟨⟨old,t1⟩,t2⟩:=t;obtain ⟨xs,x,s1,hx⟩:=g;obtain ⟨us,r1,q1⟩:=I.sqX s1;obtain ⟨xu,hxu,rx⟩:=r1.get hx;have hh:X.A.in1.handled=none:=I.ok.hd hc;have fz:∀ q∈[e,it],tU X pins H q:=f;have W:=WalksT.enumerateD (A:=X.A) (Rg (P:=X.prog) (w:=X.w) (A:=X.A.in1) (l:=a) c (it:=it) hh ai us.toArray) e ne (by simp;exact ⟨ne,ae.symm⟩) (by simp);have hil:i<us.toArray.size:=by
     have:=(aB.mp hxu).1
     simpa using this
   refine W.item i s _ _ hil ⟨⟨old,t1⟩,t2,q1⟩ fun T vals h' tk pt le tup mid keep=>?_;refine ⟨_,rfl,W.go elts x1 tpos i T { s with heap:=h',toks:=tk } _ _ mid fun h2 st2 keep2=>?_⟩;obtain ⟨tt,xv,px,ev⟩:=pt;have exv:xv=xu:=by
     have h1:us[i]?=some xv:=(by simpa using px);rw [hxu] at h1;cases h1
     rfl
   subst exv;have Tw:T ∉ [e,it]:=W.apart i T h' mid;have kp:∀ q o,q ∉ [e,it]->s.heap.get? q=some o->h2.get? q=some o:=fun q o hq eo=>keep2 q o hq (keep q o hq eo);obtain ⟨ot,ht,hct,nt,hdt⟩:=tup;have new:h2.get? T=some ot:=keep2 T ot Tw ht;have Hn:∀ q u,H q=some u->q ∉ [e,it]:=fun q u e hq=>by rw [(fz q hq).1] at e;cases e
   have nH:H T=none:=I.hok.fresh le;have Tb:∀ q o,s.heap.get? q=some o->q≠T:=fun q o eo=>aE (aM (aw eo) le);have I2:Inv X pins σ H { s with heap:=h2,toks:=tk }:=by
     refine I.step (g':=s.gens) (d':=s.drawn) (t':=tk) (ch:=[e,it]) (fun q hq=>⟨(fz q hq).2.2.2.1,(fz q hq).2.1,(fz q hq).2.2.2.2.1,(fz q hq).2.2.2.2.2⟩) (fun q o _ _ hq e _=>kp q o hq e) (fun q o _ _ hq e _=>⟨o.slots,kp q o hq e⟩) (fun _ _ _ _ n=>n)
       (fun q o hq e=>⟨o,kp q o hq e⟩) (fun _ _ e=>e) (fun _ _ _ e=>e) (fun q ps e=>⟨#[],by rw [e];simp⟩) (fun m hm=>?_) (fun q u e=>?_) I.bare
     . obtain ⟨o,es,ep,ho,r⟩:=hm;exact ⟨o,es,ep,kp _ o (fun hq=>(fz _ hq).2.1 rfl) ho,r⟩
     . refine (I.hok q u e).stay (fun q' v hq' e'=>kp q' v ?_ e') (fun _ e'=>e') fun _ _ e'=>e';rcases hq' with rfl|hq'
       . exact Hn _ u e
       . exact Hn _ _ hq'
   have I3:Inv X pins σ (upd H T (.tup [.int i,x])) { s with heap:=h2,toks:=tk }:=by
     refine ⟨I2.ok,I2.os,I2.bare,?_,I2.loc,I2.cell,?_,fun n c e=>?_,fun p hp=>?_,fun q u e=>?_,I2.len⟩
     . refine ⟨I2.base.keep,I2.base.slot,fun q o e n hx=>?_,I2.base.there,fun q xs e=>?_,fun q o u e=>?_,fun q ps e=>?_⟩
       . have lt:q<X.s₀.heap.objs.size:=aw e;rw [aR (aE (aM lt (bP I.sz le)))];exact I2.base.free q o e n hx
       . have e':=I2.base.tups q xs e;rw [aR (fun z=>by rw [z,nH] at e';cases e')];exact e'
       . have e':=I2.base.frzs q o u e;rw [aR (fun z=>by rw [z,nH] at e';cases e')];exact e'
       . obtain ⟨more,e'⟩:=I2.base.tbls q ps e;exact ⟨more,by rw [aR (fun z=>by rw [z,nH] at e';cases e')];exact e'⟩
     . rw [aR (aE (aM I.lt le))];exact I2.free
     . obtain ⟨vv,o,ho,_⟩:=I.cell n c e;rw [aR (Tb _ _ ho)];exact I2.freeC n c e
     . obtain ⟨k1,k2,k3⟩:=I.pin p hp;rw [aR (Tb _ _ k1)];exact I2.pin p hp
     . by_cases hq:q=T
       . subst hq;rw [aq] at e;cases e;refine ⟨by show 2<=sizeLine;decide,[.int (i:Nat) tt,xv],.cons ⟨tt,rfl⟩ (.cons rx .nil),ot,new,hct,nt,?_⟩;rw [hdt,ev]
       . rw [aR hq] at e;refine (I2.hok q u e).stay (fun _ _ _ e'=>e') (fun q' e'=>?_) fun q' xs e'=>?_
         . rw [aR (fun z=>by rw [z,nH] at e';cases e')];exact e'
         . rw [aR (fun z=>by rw [z,nH] at e';cases e')];exact e'
   refine ⟨.ref T,_,I3,rfl,⟨T,x,nH,rfl,rfl,fun xs' q=>?_⟩,⟨st2.1,st2.2.1⟩,fun q hq=>?_⟩
   . rw [<- I.sqX_inj s1 q];exact hx
   . have hlt:q≠T:=by
       simp only [az,df,or_false] at hq;rcases hq with rfl|rfl
       . exact Tb _ _ t1
       . exact let ⟨o,e,_⟩:=(kZ a c X.prog X.w).obj _ _ _ t2;Tb _ _ e
     rw [aR hlt];exact (fz q hq).1
 done:=fun X e1 e2 e3 hc i pins s σ H E I f t g=>by
   subst e1 e2 e3;obtain ⟨⟨old,t1⟩,t2⟩:=t;obtain ⟨xs,s1,hend⟩:=g;obtain ⟨us,r1,q1⟩:=I.sqX s1;have hh:X.A.in1.handled=none:=I.ok.hd hc;have fz:∀ q∈[e,it],tU X pins H q:=f;have W:=WalksT.enumerateD (A:=X.A) (Rg (P:=X.prog) (w:=X.w) (A:=X.A.in1) (l:=a) c (it:=it) hh ai us.toArray) e ne (by simp;exact ⟨ne,ae.symm⟩) (by simp);have ei:i=us.toArray.size:=by
     have:=r1.length;simp;omega
   subst ei;refine W.done s _ _ ⟨⟨old,t1⟩,t2,q1⟩ fun h' tk keep=>⟨rfl,?_⟩;have kp:∀ q o,q ∉ [e,it]->s.heap.get? q=some o->h'.get? q=some o:=fun q o hq e=>keep q o hq e;have Hn:∀ q u,H q=some u->q ∉ [e,it]:=fun q u e hq=>by rw [(fz q hq).1] at e;cases e
   refine I.step (g':=s.gens) (d':=s.drawn) (t':=tk) (ch:=[e,it]) (fun q hq=>⟨(fz q hq).2.2.2.1,(fz q hq).2.1,(fz q hq).2.2.2.2.1,(fz q hq).2.2.2.2.2⟩) (fun q o _ _ hq e _=>kp q o hq e) (fun q o _ _ hq e _=>⟨o.slots,kp q o hq e⟩) (fun _ _ _ _ n=>n)
     (fun q o hq e=>⟨o,kp q o hq e⟩) (fun _ _ e=>e) (fun _ _ _ e=>e) (fun q ps e=>⟨#[],by rw [e];simp⟩) (fun m hm=>?_) (fun q u e=>?_) I.bare
   . obtain ⟨o,es,ep,ho,r⟩:=hm;exact ⟨o,es,ep,kp _ o (fun hq=>(fz _ hq).2.1 rfl) ho,r⟩
   . refine (I.hok q u e).stay (fun q' v hq' e'=>kp q' v ?_ e') (fun _ e'=>e') fun _ _ e'=>e';rcases hq' with rfl|hq'
     . exact Hn _ u e
     . exact Hn _ _ hq'
 self:=fun A i s Q E t q=>by
   obtain ⟨⟨old,t1⟩,t2⟩:=t;exact wpAny_pyIter_enum t1 q
def VE (K:PySem.W.Frag) (c:Bool) (tl:TE):TI:=fun σ H R=>tl σ H fun x H1=>∃ a,x=.ref a/\(∃ xs,SqX K c H1 a xs)/\R (Ite K c a) H1
section
variable {X:Cx} {e:Expr} {te:TE} {p2 pos:Pos}
theorem b3a {elts:List Expr} {x1} {tpos:Pos} (c:Bool) (hg:Gl X "enumerate") (hm:X.mg "enumerate"=none) (he:PE X e te) (h2:starEach [e] X.env=[(false,eval e X.env)]:=by rfl):PI X (.Tuple elts x1 tpos) (.Call (.Name "enumerate" p2) [e] [] pos) (VE X.K c te):=by
 intro pins s σ H R I h;refine Call_ (pS I hg hm boot_enumerate (bQ ?_ h2 rfl));rw [h2];show wpAny _ _ (spliced ((false,eval e X.env)::backTo pos [])) _ _ s;refine fC (dg (he pins s σ H _ I h) fun u s1 x H1 I1 r1 q1=>fQ ?_);obtain ⟨a,ex,⟨xs,sa⟩,q⟩:=q1;subst ex;cases r1;obtain ⟨us,r1,q1⟩:=I1.sqX sa;obtain ⟨oa,hoa⟩:=yt a c _ _ q1;have la:=aw hoa;refine Wz (kZ a c) q1 (FG a c) fun h' w1 w2 w3=>?_;refine wpAny_pyIter_enum w1 ?_;refine ⟨_,[s1.heap.objs.size+1,s1.heap.objs.size],_,_,H1,rfl,I1.kept (t':=s1.toks) w3,WK c a _ _ (Nat.succ_ne_self _) (aE (lQ la)) (aE la),⟨⟨_,w1⟩,w2⟩,fun b hb=>?_,q⟩;have hle:s1.heap.objs.size<=b:=by
   simp only [az,df,or_false] at hb;rcases hb with rfl|rfl
   . exact dE _
   . exact aA _
 exact I1.fpOk hle (I1.hok.fresh hle)
end
theorem Zj {K:PySem.W.Frag} {c:Bool} {a:Addr} {xs:List V} {g:TG} {tb:TS} {D:Ends} {σ:St} {H:Hp} (Pv:Nat->St->Hp->Prop) (h0:Pv 0 σ H) (hl:∀ i σ H,Pv i σ H->SqX K c H a xs)
   (hs:∀ (i:Nat) (x:V) (σ:St) (H:Hp) (p:Addr) (N:St->Hp->Prop),(∀ σ' H',Pv (i+1) σ' H'->N σ' H')->xs[i]?=some x->Pv i σ H->H p=none->g (.ref p) σ (upd H p (.tup [.int i,x])) fun σ2 H2=>tb { D with nx:=N,ct:=N,bk:=D.nx } σ2 H2)
   (hd:∀ σ H,Pv xs.length σ H->D.nx σ H):yo (Ite K c a) D g tb σ H:=by
 refine ⟨fun i m σ H=>m=xs.length - i/\i<=xs.length/\Pv i σ H,⟨_,rfl,bi _,h0⟩,?_⟩;rintro i m σ H ⟨rfl,hi,p⟩;have q1:=hl i σ H p;by_cases hlt:i<xs.length
 . refine .inr ⟨⟨xs,xs[i],q1,aD hlt⟩,fun σ' H'=>∃ m',m'<xs.length - i/\(m'=xs.length - (i+1)/\i+1<=xs.length/\Pv (i+1) σ' H'),fun σ' H' z=>z,fun x H' y=>?_⟩;obtain ⟨p',x',hp,rfl,rfl,e1⟩:=y;exact hs i x' σ H p' _ (fun σ' H' p'=>⟨xs.length - (i+1),by omega,rfl,hlt,p'⟩) (e1 xs q1) p hp
 . have e:i=xs.length:=by omega
   subst e;exact .inl ⟨⟨xs,q1,rfl⟩,hd σ H p⟩
end L2
namespace Pb
open L2 PySem
abbrev Stp:=Int × Int × Int
def vSt (s:Stp):List V:=[.int s.1,.int s.2.1,.int s.2.2]
abbrev StepsAt (H:Hp):List Addr->List Stp->Prop:=Paired fun q s=>H q=some (.tup (vSt s))
theorem StepsAt.same {H H':Hp} {qs:List Addr} {ss:List Stp} (e:Same H H') (h:StepsAt H qs ss):StepsAt H' qs ss:=Paired.imp' (fun q v x=>e q _ x) h
theorem StepsAt.get {H:Hp}:∀ {ps:List Addr} {vs:List Stp} {i:Nat} {x:V},StepsAt H ps vs->(ps.map V.ref)[i]?=some x->∃ p v,x=.ref p/\ps[i]?=some p/\vs[i]?=some v/\H p=some (.tup (vSt v))
 | _,_,i,x,.nil,e=>by simp at e
 | _,_,0,x,.cons (a:=p) (b:=r) h hs,e=>⟨p,r,by simpa using e.symm,by simp,by simp,h⟩
 | a::l1,_,i+1,x,.cons h hs,e=>by
   have e':(List.map V.ref l1)[i]?=some x:=by simpa using e
   obtain ⟨p,r,h1,h2,h3,h4⟩:=StepsAt.get hs e';exact ⟨p,r,h1,by simpa using h2,by simpa using h3,h4⟩
theorem Tk {α β:Type} {R:α->β->Prop} {a:α} {b:β} (h:R a b):∀ {l₁:List α} {l₂:List β},Paired R l₁ l₂->Paired R (l₁++[a]) (l₂++[b])
 | _,_,.nil=>.cons h .nil
 | _,_,.cons x xs=>.cons x (Tk h xs)
theorem Lc {α β:Type} {R:α->β->Prop}:∀ {ps:List α} {vs:List β} {i:Nat} {x:α},Paired R ps vs->ps[i]?=some x->∃ v,vs[i]?=some v/\R x v
 | _,_,i,x,.nil,e=>by simp at e
 | _,_,0,x,.cons (a:=p) (b:=r) h hs,e=>by
   have:p=x:=by simpa using e
   subst this;exact ⟨r,by simp,h⟩
 | a::l1,_,i+1,x,.cons h hs,e=>by
   have e':l1[i]?=some x:=by simpa using e
   obtain ⟨v,h1,h2⟩:=Lc hs e';exact ⟨v,by simpa using h1,h2⟩
abbrev TupsAt (H:Hp):List Addr->List (List Int)->Prop:=Paired fun q xs=>H q=some (.tup (xs.map V.int))
theorem TupsAt.same {H H':Hp} {qs:List Addr} {ss:List (List Int)} (e:Same H H') (h:TupsAt H qs ss):TupsAt H' qs ss:=Paired.imp' (fun q v x=>e q _ x) h
def tL (rs:List Road) (a b:Int):Int:=(cS rs a b).getD 1
def Ai (rs:List Road) (xs:List Int) (s:Stp):List Int :=
 (xs.set s.1.toNat (xs.getD s.1.toNat 0 - s.2.2*tL rs s.1 s.2.1)).set s.2.1.toNat ((xs.set s.1.toNat (xs.getD s.1.toNat 0 - s.2.2*tL rs s.1 s.2.1)).getD s.2.1.toNat 0+s.2.2)
theorem WG (rs:List Road) (xs:List Int) (s:Stp):(Ai rs xs s).length=xs.length:=by unfold Ai;rw [cX,cX]
def tI (m:Int) (rs:List Road) (s:Stp):Bool:=decide (0<=s.1) && decide (s.1<m) && decide (s.2.1∈nO m rs s.1) && decide (1<=s.2.2)
def mm (m:Int) (rs:List Road) (xs:List Int) (s:Stp):Bool:=tI m rs s && decide (s.2.2*tL rs s.1 s.2.1<=xs.getD s.1.toNat 0)
def fM (rs:List Road) (xs:List Int) (ss:List Stp) (i:Nat):List Int:=(ss.take i).foldl (Ai rs) xs
def Aw (rs:List Road) (xs:List Int) (ss:List Stp):List (List Int):=(List.range (ss.length+1)).map (fM rs xs ss)
def yC (m:Int) (rs:List Road) (xs:List Int) (ss:List Stp):Prop:=∀ i s,ss[i]?=some s->mm m rs (fM rs xs ss i) s=true
theorem DM (rs:List Road) (xs:List Int) (ss:List Stp) (i:Nat):(fM rs xs ss i).length=xs.length:=by
 unfold fM;have:∀ (l:List Stp) (ys:List Int),(l.foldl (Ai rs) ys).length=ys.length:=by
   intro l
   induction l with
   | nil=>intro ys;rfl
   | cons s l ih=>intro ys;rw [List.foldl_cons,ih,WG]
 exact this _ _
theorem No {rs:List Road} {xs:List Int} {ss:List Stp} {i:Nat} {s:Stp} (h:ss[i]?=some s):fM rs xs ss (i+1)=Ai rs (fM rs xs ss i) s:=by
 unfold fM;rw [bS,h,List.foldl_append]
 rfl
theorem EV (rs:List Road) (xs:List Int) (ss:List Stp):(Aw rs xs ss).length=ss.length+1:=by unfold Aw;rw [ak,iM]
theorem AI {rs:List Road} {xs:List Int} {ss:List Stp} {i:Nat} (h:i<=ss.length):(Aw rs xs ss)[i]?=some (fM rs xs ss i):=by
 unfold Aw;rw [aU,lF (by omega)]
 rfl
theorem MF (rs:List Road) (xs:List Int) (ss:List Stp):fM rs xs ss 0=xs:=by unfold fM;rw [cR];rfl
theorem Dy {m:Int} {rs:List Road} {s:Stp} (h:tI m rs s=true):(0<=s.1/\s.1<m)/\s.2.1∈nO m rs s.1/\1<=s.2.2:=by
 unfold tI at h;rw [bq,bq,bq] at h;exact ⟨⟨cz h.1.1.1,cz h.1.1.2⟩,cz h.1.2,cz h.2⟩
theorem QJ {m:Int} {rs:List Road} (g:Good m rs) {a b:Int} (h:Adj rs a b):∃ k,cS rs a b=some k/\2<=k/\k<=1000000:=by
 obtain ⟨x,hx,j⟩:=h;obtain ⟨i,hi⟩:=cG hx;have ok:=g.ok x hx;have jj:uQ x a b:=j;rw [Ak g hi jj];unfold jp;by_cases c:x.a=a/\x.b=b
 . rw [am c];exact ⟨_,rfl,ok.t0,ok.t1⟩
 . rw [aj c];have c2:x.a=b/\x.b=a:=by
     rcases jj with w|w
     . exact absurd w c
     . exact ⟨w.2,w.1⟩
   rw [am c2];exact ⟨_,rfl,ok.u0,ok.u1⟩
theorem FW {m:Int} {rs:List Road} (g:Good m rs) {s:Stp} (h:tI m rs s=true):∃ k,cS rs s.1 s.2.1=some k/\tL rs s.1 s.2.1=k/\(2<=k/\k<=1000000)/\(0<=s.2.1/\s.2.1<m):=by
 obtain ⟨h1,h2,h3⟩:=Dy h;have ad:=(CL g).mp h2;obtain ⟨k,e,r⟩:=QJ g ad;exact ⟨k,e,by unfold tL;rw [e];rfl,r,(g.adj ad).2.1⟩
def Bx (xs:List Int):PyData:=.tuple (xs.map PyData.int)
theorem Dq {K:PySem.W.Frag} {H:Hp} {q:Addr} {xs:List Int} (h:H q=some (.tup (xs.map V.int))):Deep K H (.ref q) (Bx xs):=.tup (SqT.of h) (zj xs)
theorem Xi (xs:List Int):(Bx xs).depth<=2:=by
 unfold Bx;have:=pR xs;simp only [PyData.depth];omega
def dSt (s:Stp):PyData:=.tuple [.int s.1,.int s.2.1,.int s.2.2]
theorem Jm {K:PySem.W.Frag} {H:Hp}:∀ {qs:List Addr} {ss:List Stp},StepsAt H qs ss->DeepAll K H (qs.map V.ref) (ss.map dSt)
 | _,_,.nil=>.nil
 | _,_,.cons x xs=>.cons (.tup (SqT.of x) (.cons (.int _) (.cons (.int _) (.cons (.int _) .nil)))) (Jm xs)
theorem TM:∀ ss:List Stp,PyData.eqvAll (ss.map dSt) (ss.map dSt)=true
 | []=>by simp [PyData.eqvAll]
 | r::rs=>by
   rw [aW];simp only [PyData.eqvAll];rw [TM rs];simp [dSt,PyData.eqv,PyData.eqvAll]
theorem Nk:∀ ss:List Stp,PyData.depthAll (ss.map dSt)<=1
 | []=>by simp [PyData.depthAll]
 | r::rs=>by
   rw [aW];simp only [PyData.depthAll];have:=Nk rs;have h:(dSt r).depth<=1:=by simp [dSt,PyData.depth,PyData.depthAll]
   omega
end Pb
namespace L2
open PySem PySem.Spec PyProof.Rows
def bOa (i j k:Nat) (ta:TA):TS:=fun D σ H=>ta σ H fun vs H1=>∃ v w z,vs=[v,w,z]/\D.nx (((σ.set i (some v)).set j (some w)).set k (some z)) H1
end L2
namespace L2
open PySem PySem.Spec PyProof.Rows
theorem Ph (zs:List V) {k:Int} (k0:0<=k):Fa zs none (some k)=zs.take k.toNat:=by
 unfold Fa;have e1:HT.sIx zs.length 0 none=0:=rfl;have e2:HT.sIx zs.length zs.length (some k)=min k.toNat zs.length:=by
   show (if k<0 then (k+(zs.length:Int)).toNat else min k.toNat zs.length)=_;rw [aj (by omega)]
 rw [e1,e2,k9,qG,List.take_eq_take_iff];omega
theorem Rc (zs:List V) {k:Int} (k0:0<=k):Fa zs (some k) none=zs.drop k.toNat:=by
 unfold Fa;have e1:HT.sIx zs.length zs.length none=zs.length:=rfl;have e2:HT.sIx zs.length 0 (some k)=min k.toNat zs.length:=by
   show (if k<0 then (k+(zs.length:Int)).toNat else min k.toNat zs.length)=_;rw [aj (by omega)]
 rw [e1,e2,c6 (by rw [cV];omega)];by_cases c:k.toNat<=zs.length
 . rw [Nat.min_eq_left c]
 . rw [Nat.min_eq_right (by omega),oZ (aA _),oZ (by omega)]
end L2
namespace Pb
open L2 PySem
def AtX (c:Bool) (H:Hp) (a:Addr) (xs:List V):Prop:=H a=some (if c then .lst xs else .tup xs)
theorem AtX.sq {K:PySem.W.Frag} {c:Bool} {H:Hp} {a:Addr} {xs:List V} (h:AtX c H a xs):SqX K c H a xs:=by
 cases c
 . exact SqT.of h
 . exact SqL.of h
end Pb
namespace L2
open PySem PySem.Spec PyProof.Rows
section
variable {X:Cx} {i o:Expr} {ty td:TE}
def bya (ty td:TE):TE:=fun σ H Q=>ty σ H fun y H1=>td σ H1 fun x H2=>∃ a,x=.ref a/\((∃ o,DGet H2 a y o/\Q (.bl o.isSome) H2)\/(y=.non/\(∃ kvs,H2 a=some (.dK kvs))/\Q (.bl false) H2))
end
end L2
namespace L2
theorem ft {A B:TS} {D:Ends} {σ:St} {H:Hp} (h:∀ N:St->Hp->Prop,(∀ σ' H',B D σ' H'->N σ' H')->A { D with nx:=N } σ H):U3 A B D σ H:=h (B D) fun _ _ z=>z
theorem GS {c:TT} {A B:TS} {D:Ends} {σ:St} {H:Hp} (h:∀ NA NB:St->Hp->Prop,(∀ σ' H',A D σ' H'->NA σ' H')->(∀ σ' H',B D σ' H'->NB σ' H')->Qj c (fun _=>NA) (fun _=>NB) D σ H):Qj c A B D σ H:=h (A D) (B D) (fun _ _ z=>z) fun _ _ z=>z
end L2
namespace L2
open PySem
theorem rg {K:PySem.W.Frag} {a:Addr} {xs:List V} {g:TG} {tb:TS} {D:Ends} {σ:St} {H:Hp} (Pv:Nat->St->Hp->Prop) (h0:Pv 0 σ H) (hl:∀ i σ H,i<=xs.length->Pv i σ H->SqL K H a xs)
   (hs:∀ (i:Nat) (x:V) (σ:St) (H:Hp) (N B:St->Hp->Prop),(∀ σ H,(g x σ H fun σ2 H2=>tb { D with nx:=N,ct:=N,bk:=D.nx } σ2 H2)->B σ H)->(∀ σ' H',Pv (i+1) σ' H'->N σ' H')->xs[i]?=some x->Pv i σ H->B σ H)
   (hd:∀ (B:St->Hp->Prop) σ H,(∀ σ H,D.nx σ H->B σ H)->Pv xs.length σ H->B σ H):yo (Itl K a) D g tb σ H :=
 AH Pv h0 hl (fun i x σ H N hN hx p=>hs i x σ H N (fun σ H=>g x σ H fun σ2 H2=>tb { D with nx:=N,ct:=N,bk:=D.nx } σ2 H2) (fun _ _ z=>z) hN hx p) fun σ H p=>hd (fun σ H=>D.nx σ H) σ H (fun _ _ z=>z) p
theorem TN {c:TT} {tb:TS} {D:Ends} {σ:St} {H:Hp} (W:Nat->St->Hp->Prop) (n0:Nat) (h0:W n0 σ H)
   (hs:∀ (n:Nat) (σ:St) (H:Hp) (N:St->Hp->Prop) (B:Nat->St->Hp->Prop),(∀ n σ H,(c σ H fun b H1=>if b=true then ∃ N:St->Hp->Prop,(∀ σ' H',N σ' H'->∃ m',m'<n/\W m' σ' H')/\tb { D with nx:=N,ct:=N,bk:=D.nx } σ H1 else D.nx σ H1)->B n σ H)->(∀ n' σ' H',n'<n->W n' σ' H'->N σ' H')->(∀ σ' H',N σ' H'->∃ m',m'<n/\W m' σ' H')->W n σ H->B n σ H):O6 c tb D σ H :=
 LC W n0 h0 fun n σ H N hN hN2 w=>hs n σ H N (fun n σ H=>c σ H fun b H1=>if b=true then ∃ N:St->Hp->Prop,(∀ σ' H',N σ' H'->∃ m',m'<n/\W m' σ' H')/\tb { D with nx:=N,ct:=N,bk:=D.nx } σ H1 else D.nx σ H1) (fun _ _ _ z=>z) hN hN2 w
theorem ex6 {α0:Sort _} {α1:Sort _} {α2:Sort _} {α3:Sort _} {α4:Sort _} {α5:Sort _} {P:α0->α1->α2->α3->α4->α5->Prop} (a0:α0) (a1:α1) (a2:α2) (a3:α3) (a4:α4) (a5:α5) (h:P a0 a1 a2 a3 a4 a5):∃ a0 a1 a2 a3 a4 a5,P a0 a1 a2 a3 a4 a5:=⟨a0,a1,a2,a3,a4,a5,h⟩
theorem ex7 {α0:Sort _} {α1:Sort _} {α2:Sort _} {α3:Sort _} {α4:Sort _} {α5:Sort _} {α6:Sort _} {P:α0->α1->α2->α3->α4->α5->α6->Prop} (a0:α0) (a1:α1) (a2:α2) (a3:α3) (a4:α4) (a5:α5) (a6:α6) (h:P a0 a1 a2 a3 a4 a5 a6):∃ a0 a1 a2 a3 a4 a5 a6,P a0 a1 a2 a3 a4 a5 a6:=⟨a0,a1,a2,a3,a4,a5,a6,h⟩
theorem ex8 {α0:Sort _} {α1:Sort _} {α2:Sort _} {α3:Sort _} {α4:Sort _} {α5:Sort _} {α6:Sort _} {α7:Sort _} {P:α0->α1->α2->α3->α4->α5->α6->α7->Prop} (a0:α0) (a1:α1) (a2:α2) (a3:α3) (a4:α4) (a5:α5) (a6:α6) (a7:α7) (h:P a0 a1 a2 a3 a4 a5 a6 a7):∃ a0 a1 a2 a3 a4 a5 a6 a7,P a0 a1 a2 a3 a4 a5 a6 a7:=⟨a0,a1,a2,a3,a4,a5,a6,a7,h⟩
theorem e0a {α0:Sort _} {α1:Sort _} {α2:Sort _} {α3:Sort _} {α4:Sort _} {α5:Sort _} {α6:Sort _} {α7:Sort _} {α8:Sort _} {α9:Sort _} {α10:Sort _} {α11:Sort _} {P:α0->α1->α2->α3->α4->α5->α6->α7->α8->α9->α10->α11->Prop} (a0:α0) (a1:α1) (a2:α2) (a3:α3) (a4:α4) (a5:α5) (a6:α6) (a7:α7) (a8:α8) (a9:α9) (a10:α10) (a11:α11) (h:P a0 a1 a2 a3 a4 a5 a6 a7 a8 a9 a10 a11):∃ a0 a1 a2 a3 a4 a5 a6 a7 a8 a9 a10 a11,P a0 a1 a2 a3 a4 a5 a6 a7 a8 a9 a10 a11:=⟨a0,a1,a2,a3,a4,a5,a6,a7,a8,a9,a10,a11,h⟩
theorem an4 {p0 p1 p2 p3:Prop} (h0:p0) (h1:p1) (h2:p2) (h3:p3):p0/\p1/\p2/\p3:=⟨h0,h1,h2,h3⟩
theorem an5 {p0 p1 p2 p3 p4:Prop} (h0:p0) (h1:p1) (h2:p2) (h3:p3) (h4:p4):p0/\p1/\p2/\p3/\p4:=⟨h0,h1,h2,h3,h4⟩
theorem an6 {p0 p1 p2 p3 p4 p5:Prop} (h0:p0) (h1:p1) (h2:p2) (h3:p3) (h4:p4) (h5:p5):p0/\p1/\p2/\p3/\p4/\p5:=⟨h0,h1,h2,h3,h4,h5⟩
end L2
namespace Pb
open PySem L2
def vPr (r:Int) (par:Int->Int) (v:Int):List V:=[.int v,front r par v]
abbrev PrsAt (H:Hp) (r:Int) (par:Int->Int):List Addr->List Int->Prop:=Paired fun q v=>H q=some (.tup (vPr r par v))
theorem PrsAt.same {H H':Hp} {r:Int} {par:Int->Int} {qs:List Addr} {vs:List Int} (e:Same H H') (h:PrsAt H r par qs vs):PrsAt H' r par qs vs:=Paired.imp' (fun q v x=>e q _ x) h
theorem PrsAt.get {H:Hp} {r:Int} {par:Int->Int}:∀ {ps:List Addr} {vs:List Int} {i:Nat} {x:V},PrsAt H r par ps vs->(ps.map V.ref)[i]?=some x->∃ p v,x=.ref p/\ps[i]?=some p/\vs[i]?=some v/\H p=some (.tup (vPr r par v))
 | _,_,i,x,.nil,e=>by simp at e
 | _,_,0,x,.cons (a:=p) (b:=r) h hs,e=>⟨p,r,by simpa using e.symm,by simp,by simp,h⟩
 | a::l1,_,i+1,x,.cons h hs,e=>by
   have e':(List.map V.ref l1)[i]?=some x:=by simpa using e
   obtain ⟨p,r,h1,h2,h3,h4⟩:=PrsAt.get hs e';exact ⟨p,r,h1,by simpa using h2,by simpa using h3,h4⟩
theorem PrsAt.snoc {H:Hp} {r:Int} {par:Int->Int} {q:Addr} {v:Int} (e:H q=some (.tup (vPr r par v))):∀ {qs:List Addr} {vs:List Int},PrsAt H r par qs vs->PrsAt H r par (qs++[q]) (vs++[v])
 | _,_,.nil=>.cons e .nil
 | _,_,.cons x xs=>.cons x (PrsAt.snoc e xs)
end Pb
set_option exponentiation.threshold 5000
namespace Pb
open L2 PySem
section
variable {m:Int} {rs:List Road} {r:Int} {par:Int->Int} {dep:Int->Nat}
variable {op:Int->Int->Int} {held:Int->Int} {con:Int->Int->Int}
theorem Order.perm_len {t:List Int} (O:Order m r par t) (r0:0<=r) (r1:r<m):t.length+1=m.toNat:=by
 have h:=(tH O.nd (qb m.toNat) fun x=>by
   rw [az,j4];refine ⟨fun h=>?_,fun h=>O.all x h.1 (by have:=h.2;omega)⟩;rcases h with h|h
   . rw [h];exact ⟨r0,by omega⟩
   . have:=O.rng x h;exact ⟨this.1,by omega⟩).length_eq
 rw [eD,aQ] at h;exact h
end
end Pb
namespace L2
open PySem PySem.Spec PyProof.Rows
section
variable {X:Cx}
theorem cCa {CX:CXT} {i:Nat} {x:Str} {e:Expr} {ex:XK->TE} {pos pos':Pos} (hN:X.N.Nodup) (hi:X.N[i]?=some x) (hx:Loc X.env.scope x) (he:PEx CX X e ex) (hs:swapsWith e (some (.Name x pos')) pos.line X.env=pure false:=by rfl) (hf:X.fn x=true\/X.env.scope.names.lookup x=some .local:=by first|exact .inl rfl|exact .inr rfl|assumption) :
   PSx CX X (.Assign [.Name x pos'] e pos) (fun EK D σ H=>ex (EK σ) σ H fun y H1=>D.nx (σ.set i (some y)) H1):=by
 intro EK pins s σ H D I h;refine wpAny_Assign_Name (bg (he (EK σ) pins s σ H _ I h) (fun v s1 ⟨y,H1,I1,r1,q1⟩=>?_) fun e s' z=>⟨σ,z⟩) hs;exact IB I1 hN hi hx r1 (fun s2 I2=>⟨_,H1,I2,q1⟩) hf
end
end L2
namespace L2
open PySem PySem.Spec PyProof.Rows
section
variable {X:Cx} {x:Str} {p pos kpos:Pos} {e de:Expr} {t tk:TA}
def bKa (K:PySem.W.Frag) (t tk:TA):TE:=fun σ H Q=>t σ H fun vs H1=>tk σ H1 fun zs H2=>∃ (q:Addr) (ns:List Int) (d:V),vs=[.ref q]/\zs=[d]/\SqL K H2 q (ns.map V.int)/\ns≠[]/\∀ y,y∈ns->(∀ x∈ns,y<=x)->Q (.int y) H2
def bFa (t:TE):TE:=fun σ H Q=>t σ H fun x H1=>∃ b,x=.bl b/\Q (.bl (b != true)) H1
end
end L2
namespace L2
open PySem PySem.Spec PyProof.Rows PySem.W
def KAll {α:Type} (I:Nat->Prop) (P:α->Prop):KasT α->Prop
 | .ret a=>P a
 | .ask i j k=>I i/\I j/\∀ b,KAll I P (k b)
theorem KAll.bind {α β:Type} {I:Nat->Prop} {P:α->Prop} {R:β->Prop} {f:α->KasT β} (hf:∀ a,P a->KAll I R (f a)):∀ {t:KasT α},KAll I P t->KAll I R (t.bind f)
 | .ret a,h=>hf a h
 | .ask i j k,h=>⟨h.1,h.2.1,fun b=>KAll.bind hf (h.2.2 b)⟩
theorem KAll.wp {α:Type} {I:Nat->Prop} {P:α->Prop} {cmp:Nat->Nat->(Bool->Shared->Prop)->Shared->Prop} {Q:α->Shared->Prop} {s:Shared} (hc:∀ i j C,I i->I j->(∀ b,C b s)->cmp i j C s) (hq:∀ a,P a->Q a s):∀ {t:KasT α},KAll I P t->t.kasWp cmp Q s
 | .ret a,h=>hq a h
 | .ask i j k,h=>hc i j _ h.1 h.2.1 fun b=>KAll.wp hc hq (h.2.2 b)
section
variable {n:Nat}
abbrev PmR (n:Nat) (p:Array Nat):Prop:=p.toList.Perm (List.range n)
theorem PmR.at (hn:0<n) {p:Array Nat} (h:PmR n p) (k:Nat):p.getD k 0<n:=by
 by_cases hk:k<p.size
 . have:p.getD k 0∈p.toList:=by
     have e:p.getD k 0=p[k]:=(by simp [Array.getD,hk]);rw [e];exact Array.getElem_mem_toList hk
   exact cN.mp (h.mem_iff.mp this)
 . have e:p.getD k 0=0:=by simp [Array.getD,hk]
   rw [e];exact hn
theorem PmR.rev {p:Array Nat} (h:PmR n p) (i j:Nat):PmR n (kas_rev p i j):=(my.mp (mirror_perm p i j _)).trans h
theorem PmR.bub {p:Array Nat} (h:PmR n p) (i j:Nat):PmR n (bubble p i j):=(my.mp (bubble_perm p i j)).trans h
variable (hn:0<n)
include hn
theorem MA {p:Array Nat} (h:PmR n p):∀ f m,KAll (·<n) (fun _:Nat=>True) (kas_asc p f m)
 | 0,m=>trivial
 | f+1,m=>⟨h.at hn _,h.at hn _,fun b=>by cases b with
   | true=>exact trivial
   | false=>exact MA h f (m+1)⟩
theorem Dz:∀ f {p:Array Nat} (h:PmR n p) m q,KAll (·<n) (fun r:Array Nat × Nat × Nat=>PmR n r.1) (kas_desc f p m q)
 | 0,p,h,m,q=>h
 | f+1,p,h,m,q=>⟨h.at hn _,h.at hn _,fun b=>by
   cases b with
   | true =>
     show KAll _ _ (if q > 0 then _ else _);split
     . exact Dz f (h.rev _ _) _ _
     . exact Dz f h _ _
   | false =>
     refine ⟨h.at hn _,h.at hn _,fun d=>?_⟩;cases d with
     | true=>exact h
     | false=>exact Dz f h _ _⟩
theorem QG {p:Array Nat} (h:PmR n p) (m r:Nat):KAll (·<n) (fun r:Nat × Array Nat=>PmR n r.2) (kas_tail3 m r p) :=
 KAll.bind (R:=fun r:Nat × Array Nat=>PmR n r.2) (f:=fun k=>.ret (k,kas_rev p 0 m)) (fun a _=>h.rev _ _) (MA hn (h.rev _ _) _ _)
theorem ER {p:Array Nat} (h:PmR n p) (m r:Nat):KAll (·<n) (fun r:Nat × Array Nat=>PmR n r.2) (kas_descPart m r p):=by
 refine KAll.bind (fun a ha=>?_) (Dz hn _ h _ _);split
 . exact QG hn (PmR.rev ha _ _) _ _
 . exact QG hn ha _ _
theorem Xk {p:Array Nat} (h:PmR n p) (r:Nat):KAll (·<n) (fun r:Nat × Array Nat=>PmR n r.2) (kas_count r p):=by
 refine KAll.bind (fun a _=>?_) (MA hn h _ _);split
 . exact h
 . split
   . refine ⟨h.at hn _,h.at hn _,fun b=>?_⟩;cases b with
     | true=>exact h
     | false=>exact ER hn (h.rev _ _) _ _
   . exact ER hn h _ _
theorem E8 {p:Array Nat} (h:PmR n p) (k:Nat):∀ f l r,KAll (·<n) (fun _:Nat=>True) (kas_place p k f l r)
 | 0,l,r=>trivial
 | f+1,l,r=>by
   show KAll _ _ (if l ≥ r then _ else _);split
   . exact trivial
   . refine ⟨h.at hn _,h.at hn _,fun b=>?_⟩;cases b with
     | true=>exact E8 h k f _ _
     | false=>exact E8 h k f _ _
theorem Uc:∀ f {p:Array Nat} (h:PmR n p) k,KAll (·<n) (fun p:Array Nat=>PmR n p) (kas_bin f p k)
 | 0,p,h,k=>h
 | f+1,p,h,k=>KAll.bind (fun l _=>Uc f (h.bub _ _) _) (E8 hn h k _ _ _)
theorem Zh:KAll (·<n) (fun p:Array Nat=>PmR n p) (kas_sort n):=by
 refine KAll.bind (fun r hr=>?_) (Xk hn (iX _) n);split
 . exact Uc hn _ hr _
 . exact hr
end
theorem WX {α:Type} (vs:List α) (d:α):(List.range vs.length).map (fun i=>vs.getD i d)=vs:=by
 apply eO;intro i;rw [aU];by_cases h:i<vs.length
 . rw [lF h];simp [h]
 . rw [bJ (by simpa using h),bJ (by omega)]
   rfl
section
variable {prog:Program} {w:World} {A:Around} {E:Value->Shared->Prop} {s:Shared}
theorem Mh {a:Addr} {vs:List Value} {n:Nat} {P:PySem.Fin->Shared->Prop} (ho:s.heap.get? a=some (seqObj "list" vs.toArray n)) (h64:vs.length<64)
   (hk:2<=vs.length->∀ h':Heap,(∀ b o,b≠a->s.heap.get? b=some o->h'.get? b=some o)->∃ κ,(∀ Q:SortKind->Shared->Prop,Q κ { s with heap:=h' }->wpAny (model prog w) A (keyKind' vs.toArray) Q (fun _ _=>False) { s with heap:=h' }) /\
     ∀ i j (C:Bool->Shared->Prop),i<vs.length->j<vs.length->(∀ b,C b { s with heap:=h' })->kas_ask prog w A κ vs i j C { s with heap:=h' })
   (h:∀ out:Array Value,out.toList.Perm vs->P (.done (.ret .none)) { s with heap:=sortedHeap s.heap a vs out }) :
   wpAny (model prog w) A (Builtin.«list.sort» ⟨[.ref a],[]⟩) P E s:=by
 rw [list_sort_plain];have ha:a<s.heap.objs.size:=aw ho;have z:vs.length<=sizeLine:=by rw [sizeLine_eq];omega
 refine aa (listItems_at ho rfl ?_);refine aa (listUpdate_at ho rfl ?_ (by rw [aG];exact z) (bi _));obtain ⟨e1,ho1⟩:∃ e1,(s.heap.update a (Obj.mapSeq fun _=>(#[]:Array Value))).get? a=some (seqObj "list" #[] e1):=⟨_,get?_update_seq ho (fun _=>#[])⟩;refine aa (seqEpoch_at ho1 rfl ?_);refine aa (wpAny_newTuple ?_ (by exact z));refine aa (wpAny_newList ?_ (bi _));refine bD ?_;have keep:∀ b o,(s.heap.update a (Obj.mapSeq fun _=>(#[]:Array Value))).get? b=some o->(((s.heap.update a (Obj.mapSeq fun _=>#[])).push (seqObj "tuple" vs.toArray 0)).push (seqObj "list" #[] 0)).get? b=some o :=
   fun b o e=>ap _ (ap _ e)
 have ho6:=keep _ _ ho1;have ext:∀ b o,b≠a->s.heap.get? b=some o->(((s.heap.update a (Obj.mapSeq fun _=>#[])).push (seqObj "tuple" vs.toArray 0)).push (seqObj "list" #[] 0)).get? b=some o :=
   fun b o hb e=>keep b o (by rw [Heap.get?_update_ne _ _ _ _ hb];exact e)
 show wpAny (model prog w) A _ P E { s with heap:=((s.heap.update a (Obj.mapSeq fun _=>#[])).push (seqObj "tuple" vs.toArray 0)).push (seqObj "list" #[] 0) };dsimp only;by_cases h2:vs.toArray.size<2
 . rw [am h2,am h2];refine aa (ao ?_);rw [StateT.run_pure];refine aa (ao ?_);dsimp only;have ez:(arrOf (SortSt.mk' general' (vs.toArray.zip vs.toArray) #[] 7 none)).map (·.2)=vs.toArray:=by
     show (vs.toArray.zip vs.toArray).map (·.2)=vs.toArray;apply Array.toList_inj.mp;rw [Array.toList_map,Array.toList_zip];show (vs.zip vs).map Prod.snd=vs;exact List.map_snd_zip (aA _)
   refine aa (seqEpoch_at ho6 rfl ?_);refine aa (listUpdate_at ho6 rfl ?_ (bi _) (by rw [ez,aG];exact Nat.le_succ_of_le z));simp only [bne_self_eq_false,bB,if_false];refine ao (h _ ?_);rw [ez]
 . rw [aj h2,aj h2];have h2':2<=vs.length:=by rw [aG] at h2;omega
   obtain ⟨κ,k1,k2⟩:=hk h2' _ ext;refine aa (bg (k1 (fun κ' s'=>κ'=κ/\s'={ s with heap:=((s.heap.update a (Obj.mapSeq fun _=>#[])).push (seqObj "tuple" vs.toArray 0)).push (seqObj "list" #[] 0) }) ⟨rfl,rfl⟩) (fun κ' s0 e0=>?_) fun _ _ x=>x.elim);obtain ⟨rfl,rfl⟩:=e0;refine aa (bg (kat_run (Q:=fun st' s'=>s'={ s with heap:=((s.heap.update a (Obj.mapSeq fun _=>#[])).push (seqObj "tuple" vs.toArray 0)).push (seqObj "list" #[] 0) }/\∃ p:Array Nat,PmR vs.length p/\arrOf st'=p.map (kas_item (vs.toArray.zip vs.toArray))/\failedOf st'=none)
     (G:=fun p s'=>s'={ s with heap:=((s.heap.update a (Obj.mapSeq fun _=>#[])).push (seqObj "tuple" vs.toArray 0)).push (seqObj "list" #[] 0) }/\PmR vs.length p)
     rfl h2' h64 (fun p' st' s' a1 a2 a3 a4=>⟨a4.1,p',a4.2,a2,a3⟩) ?_) ?_ fun _ _ e=>e)
   . exact KAll.wp (fun i j C hi hj hC=>k2 i j C hi hj hC) (fun p hp=>⟨rfl,hp⟩) (Zh (by omega))
   rintro ⟨⟨⟩,st'⟩ s' ⟨rfl,p,hp,har,hf⟩;dsimp only;have hout:=kat_snds rfl har;have ln:p.toList.length=vs.length:=by have:=hp.length_eq;rwa [iM] at this
   rw [hout];refine aa (seqEpoch_at ho6 rfl ?_);refine aa (listUpdate_at ho6 rfl ?_ (bi _) (by rw [aG,ak,ln];exact Nat.le_succ_of_le z));rw [hf];simp only [bne_self_eq_false,bB,if_false];refine ao (h _ ?_);refine (hp.map _).trans ?_;rw [WX]
end
end L2
namespace L2
open PySem PySem.Spec PyProof.Rows PySem.W Pb
def RawD (h:Heap) (d:Addr) (es:Array DictEntry) (ep:Nat):Prop:=∃ o,h.get? d=some o/\o.ExactDict/\o.data=.dict es ep
theorem RawD.kept {h h':Heap} {d:Addr} {es:Array DictEntry} {ep:Nat} (x:RawD h d es ep) (k:∀ o,h.get? d=some o->h'.get? d=some o):RawD h' d es ep :=
 let ⟨o,e,r⟩:=x;⟨o,k o e,r⟩
theorem RawD.type {s:Shared} {d:Addr} {es:Array DictEntry} {ep:Nat} (x:RawD s.heap d es ep):s.TypeIs (.ref d) "dict":=let ⟨o,e,c,_⟩:=x;⟨o,e,c.1⟩
theorem RawD.lt {h:Heap} {d:Addr} {es:Array DictEntry} {ep:Nat} (x:RawD h d es ep):d<h.objs.size:=let ⟨o,e,_⟩:=x;aw e
section
variable {prog:Program} {w:World} {A:Around} {E:Value->Shared->Prop} {s:Shared} {it d:Addr} {i ep:Nat} {es:Array DictEntry}
theorem Y8 {Q:Value->Shared->Prop} (lo:(d == sysModules)=false) (x:RawD s.heap d es ep)
   (hQ:Q (.ref s.heap.objs.size) { s with heap:=s.heap.push { cls:=.type "dict_keyiterator",data:=.fields #[.ref d,.int 0 0,.int es.size 0,.int ep 0] } }):wpAny (model prog w) A (pyIter (.ref d)) Q E s:=by
 obtain ⟨o,ho,hc,hdat⟩:=id x;refine lZ x.type F.slot_dict_iter (bU F.slot_dict_iter x.type F.entry_dict_iter ?_ (F.args_dict_iter_1 _));unfold Builtin.«dict.__iter__» Builtin.Dict.dictSlotNone;refine aa (aa (wpAny_notOrdered_dict x.type (show wpAny _ _ (pure (Value.ref d)) _ _ s from ao ?_)));show wpAny _ _ (Builtin.Dict.showsAll d >>= _) _ _ s;unfold Builtin.Dict.showsAll;rw [lo,aj (by decide)];refine aa (ao (aa (lP ho hdat (aa (nX ho hdat ?_)))));refine aa (bX (ao ⟨_,rfl,"dict_keyiterator",_,⟨_,aJ _ rfl,rfl⟩,dS.lookup,?_⟩))
 simpa [rawInt] using hQ
theorem aXa {Q:Option Value->Shared->Prop} (hit:s.heap.IsKeyIter it d i es.size ep) (x:RawD s.heap d es ep) (hlt:i<es.size)
   (hQ:∀ h',h'.IsKeyIter it d (i+1) es.size ep->Heap.SameBut it s.heap h'->Q (some es[i].key) { s with heap:=h' }):wpAny (model prog w) A (pyNext (.ref it)) Q E s:=by
 obtain ⟨o,ho,hc,hd⟩:=id hit;obtain ⟨od,hod,hcd,hdd⟩:=id x;unfold pyNext;refine aa (gQ (wpAny_callSpecial?_slot (name:=Str.ofString "__next__") hit.typeIs dS (bU dS hit.typeIs kj ?_ (j5 _))));refine aa (ao (aa (aa ?_)))
 first|refine aa (eX hit.typeIs (ao ?_))|refine aa (fX hit.typeIs (ao ?_))
 refine aa (kh ho hd ?_);simp only [show Builtin.Dict_items.ownsTuple "dict_keyiterator"=false by decide,bB,if_false];show wpAny _ _ (if (Value.ref d == Value.none)=true then _ else _) _ _ s;rw [aj (show ¬ ((Value.ref d == Value.none)=true) from aP)];refine aa (ao (aa (lP hod hdd ?_)));rw [aj (by simp)];refine aa (ao (aa (nX hod hdd ?_)));rw [aj (by simp)];refine ao ?_;simp only [show ¬ ((i:Int)<0) from by omega,if_false,bF,ce hlt];refine aa ?_
 first|refine aa (eX hit.typeIs (ao ?_))|refine aa (fX hit.typeIs (ao ?_))
 refine aa (wpAny_isOneOf_keyiter hit.typeIs ?_);show wpAny _ _ (setField (.ref it) 1 (rawInt ((i:Int)+1)) >>= _) _ _ s;refine aa (c8 ho hd (by simp) ?_);have hit':(s.heap.update it (Obj.mapFields (·.setIfInBounds 1 (rawInt ((i:Int)+1))))).IsKeyIter it d (i+1) es.size ep :=
   ⟨_,bI _ ho (cM (bK hd _)),(gG ..).trans hc,by rw [bK hd];simp [rawInt]⟩
 refine aa (bD ?_);refine aa (wpAny_isOneOf_keyiter (s:={ s with heap:=s.heap.update it (Obj.mapFields (·.setIfInBounds 1 (rawInt ((i:Int)+1)))) }) hit'.typeIs ?_);show wpAny _ _ (pure es[i].key) _ _ _;exact ao (ao ⟨_,rfl,ao (hQ _ hit' (dY ..))⟩)
theorem bTa {Q:Option Value->Shared->Prop} (hh:A.handled=none) (hit:s.heap.IsKeyIter it d es.size es.size ep) (x:RawD s.heap d es ep)
   (hQ:∀ h',Heap.ExtBut it s.heap h'->Q none { s with heap:=h' }):wpAny (model prog w) A (pyNext (.ref it)) Q E s:=by
 obtain ⟨o,ho,hc,hd⟩:=id hit;obtain ⟨od,hod,hcd,hdd⟩:=id x;unfold pyNext;refine aa (gQ (wpAny_callSpecial?_slot (name:=Str.ofString "__next__") hit.typeIs dS (bU dS hit.typeIs kj ?_ (j5 _))));refine aa (ao (aa (aa ?_)))
 first|refine aa (eX hit.typeIs (ao ?_))|refine aa (fX hit.typeIs (ao ?_))
 refine aa (kh ho hd ?_);simp only [show Builtin.Dict_items.ownsTuple "dict_keyiterator"=false by decide,bB,if_false];show wpAny _ _ (if (Value.ref d == Value.none)=true then _ else _) _ _ s;rw [aj (show ¬ ((Value.ref d == Value.none)=true) from aP)];refine aa (ao (aa (lP hod hdd ?_)));rw [aj (by simp)];refine aa (ao (aa (nX hod hdd ?_)));rw [aj (by simp)];refine ao ?_;simp only [show ¬ ((es.size:Int)<0) from by omega,if_false,bF,gY (aA es.size)];refine aa ?_
 first|refine aa (eX hit.typeIs (ao ?_))|refine aa (fX hit.typeIs (ao ?_))
 show wpAny _ _ (setField (.ref it) 0 .none >>= _) _ _ s;refine aa (c8 ho hd (by simp) ?_);show wpAny _ _ (newExc (.type "StopIteration") [] >>= _) _ _ _;refine aa ?_;simp only [newExc,newTuple];refine aa (bX ?_ (by size_fits));refine aa (m:=firstArgMember _ _) (wpAny_of_eq (a:=Value.none) (by first|rfl|(simp only [firstArgMember];rfl)) ?_);refine bX ?_ (by size_fits);simp only [raiseNew];refine aa (wpAny_handled ?_);rw [show A.in1.handled=none from hh];refine aa (ao (wpAny_throw ?_));refine aa (dQ (T:="StopIteration") (b:=true) ⟨_,aJ _ rfl,rfl⟩ isSubtype_stop ?_);exact ao (hQ _ (((dY ..).extBut.push _).push _))
theorem XV (hh:A.handled=none) (I:Addr) (hne:d≠I) :
   Walks prog w A I [I,d] [I] es.size (fun i v=>∃ e,es[i]?=some e/\v=e.key) (fun i h=>h.IsKeyIter I d i es.size ep/\RawD h d es ep) where
 sub:=fun b hb=>by simp at hb;simp [hb]
 frame:=fun _ _ _ st hk=>⟨st.1.at fun o e=>hk I (by simp) o e,st.2.kept fun o e=>hk d (by simp) o e⟩
 item:=fun i s Q E hi st hQ=>aXa st.1 st.2 hi fun h' hit' hs'=>hQ _ h' s.toks ⟨_,ce hi,rfl⟩ ⟨hit',st.2.kept fun o e=>hs'.extBut d o hne e⟩ fun b o hb e=>hs'.extBut b o (fun h=>hb (by simp [h])) e
 done:=fun s Q E st hQ=>bTa hh st.1 st.2 fun h' he'=>hQ h' s.toks fun b o hb e=>he' b o (fun h=>hb (by simp [h])) e
 self:=fun _ _ _ _ st hQ=>wpAny_pyIter_keyiter st.1 hQ
theorem cea (lo:(d == sysModules)=false):KdlSrc prog w "dict" d d es.size (fun i v=>∃ e,es[i]?=some e/\v=e.key) (fun h=>RawD h d es ep) where
 type:=fun _ hm=>hm.type
 there:=fun _ hm=>⟨hm.lt,hm.lt⟩
 keep:=fun _ _ hm hk=>hm.kept fun o e=>hk d (.inl rfl) o e
 notList:=by decide
 notTuple:=by decide
 hint:=fun _ _ _ _ hm hq=>kdl_hint_dict hm.type hq
 iter:=fun _ _ hh hm=>⟨_,_,(fun _ _ hq=>Y8 lo hm hq),XV hh _ (aE hm.lt),⟨⟨_,aJ _ rfl,rfl,rfl⟩,hm.kept fun o e=>ap _ e⟩⟩
end
section
variable {prog:Program} {w:World} {A:Around} {E:Value->Shared->Prop} {s:Shared} {fin:Bool} {C:Bool->Shared->Prop}
theorem Qi (hC:∀ b,C b s):∀ (l:List (Value × Value)) (i:Nat),(∀ p∈l,∃ a t b u,p=(.int a t,.int b u))->KatLex prog w A true fin C l i s
 | [],i,_=>kat_nil (hC _)
 | p::r,i,h=>by
   obtain ⟨a,t,b,u,rfl⟩:=h p (.head _);refine kat_cons (wpAny_eqBool_int (kat_go (fun _=>kat_yes (Qi hC r (i+1) fun q hq=>h q (.tail _ hq))) fun _=>kat_no ?_));cases i with
   | zero=>exact oneLt_int (hC _)
   | succ i=>exact kat_one _ _ (PyProof.Rows.lt_int (hC _))
theorem NN {α β:Type} {f:α->β}:∀ {l₁ m:List β},l₁.Perm m->∀ l:List α,m=l.map f->∃ l₂:List α,l₁=l₂.map f/\l₂.Perm l:=by
 intro l₁ m hp
 induction hp with
 | nil=>intro l e;exact ⟨[],rfl,by rw [List.map_eq_nil_iff.mp e.symm]⟩
 | cons x _ ih =>
   intro l e;cases l with
   | nil=>cases e
   | cons y l =>
     obtain ⟨e1,e2⟩:=mh e;obtain ⟨l₂,h1,h2⟩:=ih l e2;exact ⟨y::l₂,by rw [h1,e1];rfl,h2.cons y⟩
 | swap x y k =>
   intro l e
   match l,e with
   | y'::x'::l,e =>
     obtain ⟨e1,e2⟩:=mh e;obtain ⟨e3,e4⟩:=mh e2;exact ⟨x'::y'::l,by rw [e1,e3,e4];rfl,List.Perm.swap y' x' l⟩
 | trans _ _ ih1 ih2 =>
   intro l e;obtain ⟨l₂,h1,h2⟩:=ih2 l e;obtain ⟨l₃,h3,h4⟩:=ih1 l₂ h1;exact ⟨l₃,h3,h4.trans h2⟩
end
theorem Rl:∀ {k:List Int} {its:List Value},Vals (k.map V.int) its->∀ v∈its,∃ n t,v=.int n t
 | [],_,.nil,v,hv=>nomatch hv
 | n::k,_,.cons h r,v,hv=>by
   rcases az.mp hv with rfl|hv
   . obtain ⟨t,e⟩:=h;exact ⟨n,t,e⟩
   . exact Rl r v hv
def Yt (h:Heap) (q:Addr):Prop:=∃ o its n,h.get? q=some o/\o.cls=.type "tuple"/\o.data=.seq (List.toArray its) n/\its≠[]/\∀ v∈its,∃ m t,v=Value.int m t
theorem Tx {h:Heap}:∀ {qs:List Addr},(∀ q∈qs,Yt h q)->∃ fs,fs.length=qs.length/\KatTups h (qs.map .ref) fs/\∀ v∈fs,∃ n t,v=.int n t
 | [],_=>⟨[],rfl,.nil,fun v hv=>nomatch hv⟩
 | q::qs,hq=>by
   obtain ⟨fs,h0,h1,h2⟩:=Tx fun q' h'=>hq q' (.tail _ h');obtain ⟨o,its,n,a1,a2,a3,a4,a5⟩:=hq q (.head _)
   match its,a4,a5,a3 with
   | v::its,_,a5,a3 =>
     refine ⟨v::fs,by simp [h0],KatTups.cons a1 a2 a3 (by simp) h1,fun u hu=>?_⟩;rcases az.mp hu with rfl|hu
     . exact a5 _ (.head _)
     . exact h2 u hu
section
variable {prog:Program} {w:World} {A:Around} {E:Value->Shared->Prop} {s:Shared}
theorem cba {qs:List Addr} (hq:∀ q∈qs,Yt s.heap q) (h2:2<=qs.length):∃ κ,(∀ Q:SortKind->Shared->Prop,Q κ s->wpAny (model prog w) A (keyKind' (qs.map Value.ref).toArray) Q (fun _ _=>False) s) /\
     ∀ i j (C:Bool->Shared->Prop),i<(qs.map Value.ref).length->j<(qs.map Value.ref).length->(∀ b,C b s)->kas_ask prog w A κ (qs.map Value.ref) i j C s:=by
 obtain ⟨fs,f0,f1,f2⟩:=Tx hq;refine ⟨tuples' (Value.type "int" != Value.type "tuple"),fun Q hQ=>kat_kind f1 (by omega) (fun v hv=>?_) (by decide) hQ,fun i j C hi hj hC=>?_⟩
 . obtain ⟨n,t,rfl⟩:=f2 v hv;exact Looks.of_pure rfl
 . rw [ak] at hi hj;have e:∀ i,i<qs.length->∃ q,(qs.map Value.ref).getD i Value.none=.ref q/\q∈qs:=fun i hi=>⟨qs[i],by simp [hi],hV hi⟩;obtain ⟨x,ex,hx⟩:=e i hi;obtain ⟨y,ey,hy⟩:=e j hj;unfold kas_ask;rw [ex,ey];obtain ⟨ox,xs,nx,x1,x2,x3,x4,x5⟩:=hq x hx;obtain ⟨oy,ys,ny,y1,y2,y3,y4,y5⟩:=hq y hy;rw [show (Value.type "int" != Value.type "tuple")=true by decide];refine kat_lt x1 x3 y1 y3 (Qi hC _ _ fun p hp=>?_);obtain ⟨p1,p2⟩:=p;have m:=jL hp;obtain ⟨a,t,e1⟩:=x5 p1 m.1;obtain ⟨b,u,e2⟩:=y5 p2 m.2;exact ⟨a,t,b,u,by rw [e1,e2]⟩
end
theorem Ny:∀ qs:List Addr,Vals (qs.map V.ref) (qs.map Value.ref)
 | []=>.nil
 | q::qs=>.cons rfl (Ny qs)
theorem Um {H:Hp}:∀ {kvs:List (List Key × V)} {xs:List (List Key × Addr × Value)},KT H kvs xs->∀ {kss:List (List Int)},kvs.map (·.1)=kss.map (·.map Sum.inl)->TupsAt H (xs.map (·.2.1)) kss
 | _,_,.nil,kss,e=>by
   cases kss with
   | nil=>exact .nil
   | cons _ _=>cases e
 | _,_,.cons (a:=p) (b:=q) h t,kss,e=>by
   cases kss with
   | nil=>cases e
   | cons k kss =>
     obtain ⟨e1,e2⟩:=mh e;refine .cons ?_ (Um t e2);have:=h.2.1;rw [show p.1=k.map Sum.inl from e1,mj] at this;exact this
theorem Qe {H:Hp}:∀ {qs:List Addr} {kss:List (List Int)},TupsAt H qs kss->(∀ p∈qs.zip kss,H p.1=some (.tup (p.2.map V.int)))/\(qs.zip kss).map (·.1)=qs/\(qs.zip kss).map (·.2)=kss
 | _,_,.nil=>⟨fun p hp=>by simp at hp,rfl,rfl⟩
 | _,_,.cons (a:=q) (b:=k) h t=>by
   obtain ⟨a1,a2,a3⟩:=Qe t;refine ⟨fun p hp=>?_,by rw [List.zip_cons_cons,aW,a2],by rw [List.zip_cons_cons,aW,a3]⟩;rcases az.mp hp with rfl|hp
   . exact h
   . exact a1 p hp
theorem Kb {H:Hp}:∀ {zs:List (Addr × List Int)},(∀ p∈zs,H p.1=some (.tup (p.2.map V.int)))->TupsAt H (zs.map (·.1)) (zs.map (·.2))
 | [],_=>.nil
 | z::zs,h=>.cons (h z (.head _)) (Kb fun p hp=>h p (.tail _ hp))
section
variable {X:Cx}
theorem QM (hc:X.calm=true):vo X (.builtin "sorted") (fun xs H Q=>∃ (d:Addr) (kvs:List (List Key × V)) (kss:List (List Int)),xs=[.ref d]/\H d=some (.dT kvs)/\kvs.map (·.1)=kss.map (·.map Sum.inl)/\kss.length<64/\(∀ k∈kss,k≠[]) /\
   ∀ (l:Addr) (qs:List Addr) (zss:List (List Int)),H l=none->TupsAt H qs zss->zss.Perm kss->Q (.ref l) (upd H l (.lst (qs.map V.ref)))):=by
 intro pins s σ H xs us Q I r h;obtain ⟨d,kvs,kss,rfl,hd,hk,h64,hne,q⟩:=h;obtain ⟨u,rfl,ru⟩:=Ax r;cases ru;obtain ⟨hz,lo,xs,kt,o,es,ep,d1,d2,d3,d4,d5⟩:=bGa I.hok hd;have T:=Um kt hk;have lk:xs.length=kss.length:=by have:=Paired.length T;rwa [ak] at this
 have le:es.size=xs.length:=by rw [<- iU,d4,ak]
 refine mz kind_sorted plain_sorted entry_sorted (args_sorted1 _) ?_;unfold Builtin.«sorted»;refine aa (m:=checkCount "sorted" 1 1 _) (ao ?_);refine aa (kdu_collect (A:=X.A.in1) (cea (es:=es) (ep:=ep) lo) (I.ok.hd hc) ⟨o,d1,d2,d3⟩ ?_ fun h' tk acc hk' hacc=>?_)
 . rw [le,lk];exact bn (by omega)
 . have ea:acc.toList=(xs.map (·.2.1)).map Value.ref:=by
     apply eO;intro j;by_cases hj:j<acc.size
     . obtain ⟨e,e1,e2⟩:=hacc.2 j acc[j] (ce hj);have e3:es.toList[j]?=some e:=(by rw [dL];exact e1);rw [d4,aU] at e3;obtain ⟨x,e4,e5⟩:=bM.mp e3;rw [dL,ce hj,e2,<- e5,aU,aU,e4]
       rfl
     . have hj':xs.length<=j:=(by rw [<- le,<- hacc.1];omega);rw [bJ (by simpa using hj),bJ (by simpa using hj')]
   have la:((xs.map (·.2.1)).map Value.ref).length=kss.length:=by rw [ak,ak,lk]
   rw [ea];refine aa (wpAny_newList ?_ (by rw [la];exact bn (by omega)));have hoL:(h'.push (seqObj "list" ((xs.map (·.2.1)).map Value.ref).toArray 0)).get? h'.objs.size=some (seqObj "list" ((xs.map (·.2.1)).map Value.ref).toArray 0):=aJ _ rfl;have I2:Inv X pins σ H { s with heap:=h',toks:=tk }:=I.kept hk';obtain ⟨tz,tz1,tz2⟩:=Qe T;have ti:∀ h2:Heap,(∀ b o,b≠h'.objs.size->(h'.push (seqObj "list" ((xs.map (·.2.1)).map Value.ref).toArray 0)).get? b=some o->h2.get? b=some o)->∀ a∈xs.map (·.2.1),Yt h2 a:=by
     intro h2 k2 a ha;rw [<- tz1] at ha;obtain ⟨p,hp,rfl⟩:=cu.mp ha;have hn:=hne p.2 (by rw [<- tz2];exact cu.mpr ⟨p,hp,rfl⟩);obtain ⟨_,its,r,o,h1,h2',n,h3⟩:=(show ObjOk X.prog X.w H h' p.1 (.tup (p.2.map V.int)) from I2.hok p.1 _ (tz p hp));refine ⟨o,its,n,k2 _ _ (aE (aw h1)) (ap _ h1),h2',h3,fun e=>?_,Rl r⟩;subst e;have:=Paired.length r;rw [ak] at this;exact hn (nZ.mp this)
   refine aa (bD (bU slot_list_sort ⟨_,hoL,rfl⟩ entry_list_sort (Mh hoL (by rw [la];exact h64) (fun g2 h2 k2=>cba (ti h2 k2) (by rw [ak] at g2;exact g2)) fun out po=>⟨_,rfl,?_⟩) (args_list_sort _)));refine ao ⟨_,rfl,?_⟩;obtain ⟨zs,e1,e2⟩:=NN (f:=fun p:Addr × List Int=>Value.ref p.1) po ((xs.map (·.2.1)).zip kss) (((congrArg (List.map Value.ref) tz1).symm).trans (mj ..));obtain ⟨n,hn⟩:∃ n,(sortedHeap (h'.push (seqObj "list" ((xs.map (·.2.1)).map Value.ref).toArray 0)) h'.objs.size ((xs.map (·.2.1)).map Value.ref) out).get? h'.objs.size=some (seqObj "list" out n):=sortedHeap_at hoL;have e3:(zs.map (·.2)).Perm kss:=by have:=e2.map (·.2);rwa [tz2] at this
   refine ⟨.ref h'.objs.size,_,I2.laid (a:=h'.objs.size) (o:=.lst ((zs.map (·.1)).map V.ref)) (t':=tk) (fun b u e=>?_) (aA _) ⟨?_,out.toList,n,?_,?_⟩,rfl,q _ (zs.map (·.1)) (zs.map (·.2)) (I2.hok.fresh (aA _)) (Kb fun p hp=>tz p (e2.mem_iff.mp hp)) e3⟩
   . rw [sortedHeap_old (aE (aw e)) (aM (aw e) (by rw [cm];exact dE _))];exact ap _ e
   . rw [ak,ak];have:=e3.length_eq;rw [ak] at this;rw [this];exact bn (by omega)
   . rw [e1,show zs.map (fun p:Addr × List Int=>Value.ref p.1)=(zs.map (·.1)).map Value.ref by rw [mj];rfl];exact Ny _
   . simpa [seqObj] using hn
end
end L2
namespace L2
theorem Pl {κ:Type} [DecidableEq κ] {kvs:List (κ × V)} {k:κ} {v:V} {p:κ × V} (h:p∈jE kvs k v):p.1=k\/∃ q∈kvs,p.1=q.1:=by
 unfold jE at h;split at h
 . obtain ⟨q,hq,e⟩:=cu.mp h;refine .inr ⟨q,hq,?_⟩;rw [<- e];split <;> rfl
 . rcases aY.mp h with h|h
   . exact .inr ⟨p,h,rfl⟩
   . rw [aI.mp h];exact .inl rfl
end L2
namespace Pb
open L2 PySem
def sB (m:Int) (rs:List Road) (PAR:Int->Int->Int) (DEP:Int->Int->Nat) (xs ys:List Int) (i:Nat):List Int:=(below i).map fun r=>gat m rs r (PAR r) (DEP r) (fun v=>(jg m xs ys).getD v.toNat 0) (hnd rs (PAR r)) r
theorem CW {m:Int} {rs:List Road} {PAR:Int->Int->Int} {DEP:Int->Int->Nat} {xs ys:List Int} {i:Nat}:(sB m rs PAR DEP xs ys i).length=i:=by unfold sB;rw [ak,eD]
theorem aia {m:Int} {rs:List Road} {PAR:Int->Int->Int} {DEP:Int->Int->Nat} {xs ys:List Int} {i j:Nat} (h:j<i):(sB m rs PAR DEP xs ys i).getD j 0=gat m rs j (PAR j) (DEP j) (fun v=>(jg m xs ys).getD v.toNat 0) (hnd rs (PAR j)) j:=by
 unfold sB;rw [List.getD,aU,rB h]
 rfl
end Pb
namespace L2
open PySem PySem.Spec PyProof.Rows
def WZ (tk tv:TE):TE:=fun σ H Q=>∀ p,H p=none->B5 [(tk,tv)] σ (upd H p (.dT [])) fun ps H2=>H2 p=some (.dT [])/\∃ (k:List Key) (b:Addr) (y:V),ps=[(.ref b,y)]/\H2 b=some (.tup (k.map kV))/\Q (.ref p) (upd H2 p (.dT [(k,y)]))
end L2
namespace L2
open PySem
theorem bNa {K:PySem.W.Frag} {i j:Nat} {a:Addr} {x y:V} {σ:St} {H:Hp} {Q:St->Hp->Prop} (h:SqT K H a [x,y]) (q:Q ((σ.set i (some x)).set j (some y)) H):Pd K 2 (KG (Dj i) (KG (Dj j) gNil)) (.ref a) σ H Q :=
 ⟨a,_,rfl,h,rfl,_,_,rfl,_,_,rfl,rfl,q⟩
end L2
namespace Pb
open L2 PySem
section
variable {m:Int} {rs:List Road} {r:Int} {par:Int->Int} {dep:Int->Nat}
abbrev stg (m:Int) (rs:List Road) (r:Int) (par:Int->Int) (dep:Int->Nat) (ys z:List Int) (v:Int):Int:=gat m rs r par dep (fun v=>(jg m z ys).getD v.toNat 0) (hnd rs par) v
end
end Pb
namespace L2
open PySem PySem.Spec PyProof.Rows PySem.W Pb
def Itd (d:Addr) (o:Obj) (kvs:List (List Key × V)):It :=
 ⟨fun i H=>H d=some (.frz o (.dT kvs))/\i<kvs.length,fun i H x H'=>H'=H/\∃ (q:Addr) (k:List Key) (v:V),x=.ref q/\kvs[i]?=some (k,v)/\H q=some (.tup (k.map kV)),fun i H=>H d=some (.frz o (.dT kvs))/\i=kvs.length⟩
def bCa (tl:TE) (g:TG) (tb:TS):TS:=fun D σ H=>tl σ H fun x H1=>∃ (d:Addr) (kvs:List (List Key × V)),x=.ref d/\H1 d=some (.dT kvs) /\
 ∀ o,yo (Itd d o kvs) { D with nx:=fun σ' H'=>H' d=some (.frz o (.dT kvs))/\D.nx σ' (upd H' d (.dT kvs)) } g tb σ (upd H1 d (.frz o (.dT kvs)))
end L2
namespace L2
open PySem PySem.Spec PyProof.Rows PySem.W
def Its (z:Str):It:=⟨fun i _=>i<z.cps.size,fun i H x H'=>H'=H/\∃ c,z.cps[i]?=some c/\x=.str ⟨#[c]⟩,fun i _=>z.cps.size<=i⟩
section
variable {X:Cx} {tg:Expr}
def c4a (tl:TE):TI:=fun σ H R=>tl σ H fun x H1=>∃ z,x=.str z/\z.cps.all (·<128)=true/\R (Its z) H1
end
section
variable {X:Cx} {e:Expr} {te:TE} {p2 apos cpos pos2:Pos} {z:Str} {zp:Pos} {zk:Nat}
def XZ (K:PySem.W.Frag) (z:Str) (te:TE):TE:=fun σ H Q=>te σ H fun x H1=>∃ (a:Addr) (ys:List Str),x=.ref a/\SqL K H1 a (ys.map V.str)/\(ys.map (·.length)).sum+ys.length*z.length<=16777216/\Q (.str (Str.join z ys.reverse)) H1
end
end L2
namespace Pb
open L2 PySem PySem.W NumText
theorem _root_.List.getElem?_map_some {α β:Type} {f:α->β} {l:List α} {i:Nat} {y:β} (h:(l.map f)[i]?=some y):∃ x,l[i]?=some x/\y=f x:=by
 rw [aU] at h;cases e:l[i]? with
 | none=>rw [e] at h;cases h
 | some x=>rw [e] at h;exact ⟨x,rfl,(bh h).symm⟩
end Pb
namespace L2
open PySem PySem.Spec PyProof.Rows
section
variable {prog:Program} {w:World} {A:Around} {E:Value->Shared->Prop} {h:Heap} {g:Array GenState} {d:Drawn} {t:Nat} {os:OsState}
variable {nm q:Str} {C N:Addr} {bs bm bmB:List Value} {hdct:Bool} {sn:List Str} {sub:List Value} {ab:Bool} {col:Option Bool} {dd:Option Addr} {k0 k1 k2 k3 k5:Option Value} {B newId initId:String}
theorem Kl (F:ExcBaseFacts B newId initId bmB) (T:OwnTail h bmB bm) {mN:Str->Option Value} {gm:List Value} {fI:Addr} {oI:Obj} {Q:Fin->Shared->Prop}
   (hC:h.get? C=some (excClassObj nm q C N bs bm hdct sn sub ab col dd k0 k1 k2 k3 k5 newId)) (hn:h.Ns N mN) (hi:mN "__init__"=some (.ref fI)) (hfI:h.get? fI=some oI) (hfc:oI.cls=.type "function")
   (hq:∀ h' e,Heap.MadeExcOf h h' e (.ref C) gm->wpAny (model prog w) A (call (.ref fI) (.ref e::gm)) (fun r s'=>r=.none/\Q (.done (.ret (.ref e))) s') E ⟨h',g,d,t,os⟩) (hrest:gm.length<=sizeLine) :
   wpAny (model prog w) A (Builtin.«type.__call__» ⟨.ref C::gm,[]⟩) Q E ⟨h,g,d,t,os⟩:=by
 repeat (first|with_reducible refine fF hC ?_|with_reducible refine wpAny_madeBy_exc hC ?_|wp_step)
 refine codeAny_call_builtin_code (iP _ F.quiet) (wpAny_check_new_subT F T hC ?_);refine codeAny_exc_new_subT F T hC ?_ hrest;show wpAny _ _ _ _ _ _;have up:∀ b o,h.get? b=some o->((h.push { cls:=.type "tuple",data:=.seq gm.toArray }).push { cls:=.ref C,data:=.fields #[.ref h.objs.size,.none,.none,.none,.bool false,.none] }).get? b=some o:=fun b o e=>ap _ (ap _ e);have hC1:=up _ _ hC;have hf1:=up _ _ hfI;have hn1:=hn.keeps up;have T1:=T.keeps up;have hget:((h.push { cls:=.type "tuple",data:=.seq gm.toArray }).push { cls:=.ref C,data:=.fields #[.ref h.objs.size,.none,.none,.none,.bool false,.none] }).get? (h.objs.size+1)=some { cls:=.ref C,data:=.fields #[.ref h.objs.size,.none,.none,.none,.bool false,.none] }:=by heap_get
 have hcC:(Value.ref C::bm).contains (.ref C)=true:=by simp
 unfold isInstance
 repeat (first|with_reducible refine fF hget ?_|(with_reducible refine wpAny_isSubtype_exc hC1 ?_;rw [hcC])|wp_step)
 show wpAny _ _ (typeLookup (.ref C) _) _ _ _;refine wpAny_typeLookup_tail hC1 hn1 T1 F.mroIs F.init.lookup ?_;rw [hi];refine bD (aa ?_);unfold bindSpecial;refine aa (jv (T:="function") ⟨_,hf1,hfc⟩ ?_);rw [am (by decide)];refine ao (aa (bg (hq _ (h.objs.size+1) ⟨up,fW (dE _),h.objs.size,hget,fW (aA _),?_⟩) (fun r s' hr=>?_) fun _ _ x=>x))
 . exact ap _ (Heap.get?_push_at rfl rfl)
 . obtain ⟨rfl,hQ⟩:=hr
   wp_walk
   exact hQ
theorem Vy (F:ExcBaseFacts B newId initId bmB) (T:OwnTail h bmB bm) {mN:Str->Option Value} {gm:List Value} {fI:Addr} {oI:Obj} {Q:Value->Shared->Prop}
   (hC:h.get? C=some (excClassObj nm q C N bs bm hdct sn sub ab col dd k0 k1 k2 k3 k5 newId)) (hn:h.Ns N mN) (hi:mN "__init__"=some (.ref fI)) (hfI:h.get? fI=some oI) (hfc:oI.cls=.type "function")
   (hq:∀ h' e,Heap.MadeExcOf h h' e (.ref C) gm->wpAny (model prog w) (A.under (.builtin "type.__call__" ⟨.ref C::gm,[]⟩)) (call (.ref fI) (.ref e::gm)) (fun r s'=>r=.none/\Q (.ref e) s') E ⟨h',g,d,t,os⟩) (hrest:gm.length<=sizeLine) :
   wpAny (model prog w) A (call (.ref C) gm) Q E ⟨h,g,d,t,os⟩:=by
 have f1:=tc_lookup;have f2:=tc_bind (.ref C);have hT:(⟨h,g,d,t,os⟩:Shared).TypeIs (.ref C) "type":=⟨_,hC,rfl⟩;refine fw (codeAny_of_tree ?_);show wpAny _ _ (callAny (.ref C) _) _ _ _
 repeat (any_goals (first|assumption|with_reducible refine fF hC ?_|wp_step))
 refine ⟨rfl,?_⟩;refine codeAny_call_builtin_at (iP _ (by decide +kernel)) entry_typeCall (wpAny_check_type_call_sub hC (Kl F T hC hn hi hfI hfc (fun h' e hm=>?_) hrest));exact hq h' e hm
end
section
variable {M:Model} {A:Around} {E:Value->Shared->Prop} {env:Env}
variable {nm q:Str} {C N:Addr} {bs bm:List Value} {hdct:Bool} {sn:List Str} {sub:List Value} {ab:Bool} {col:Option Bool} {dd:Option Addr} {k0 k1 k2 k3 k5:Option Value} {newId:String}
theorem Cy {s:Shared} {x:Sem Value} {Q:Flow->Shared->Prop} (hbase:bm.contains (.type "BaseException")=true) (hh:A.handled=none)
   (h:wpAny M A x (fun v s₁=>∃ e a0 od sl,v=.ref e/\s₁.heap.get? C=some (excClassObj nm q C N bs bm hdct sn sub ab col dd k0 k1 k2 k3 k5 newId) /\
     s₁.heap.get? e=some { cls:=.ref C,dict:=od,data:=.fields #[a0,.none,.none,.none,.bool false,.none],slots:=sl }/\E (.ref e) s₁) E s) :
   wpAny M A (raiseStmt env (some x) none) Q E s:=by
 have hcB:(Value.ref C::bm).contains (.type "BaseException")=true:=by rw [dB,hbase,mY]
 unfold raiseStmt;refine aa (bg h (fun v s₁ h₁=>?_) fun _ _ x=>x);obtain ⟨e,a0,od,sl,rfl,hC,he,hE⟩:=h₁;obtain ⟨hp,g,d,tk,os⟩:=s₁
 repeat (first|with_reducible refine fF he ?_|with_reducible refine fF hC ?_|(with_reducible refine wpAny_isSubtype_exc hC ?_;rw [hcB])|wp_step)
 exact wpAny_raiseNew_none hh hE
end
section
variable {prog:Program} {w:World} {A:Around} {E:Value->Shared->Prop} {s:Shared} {env:Env}
variable {nm q:Str} {C N:Addr} {bs bm bmB:List Value} {hdct:Bool} {sn:List Str} {sub:List Value} {ab:Bool} {col:Option Bool} {dd:Option Addr} {k0 k1 k2 k3 k5:Option Value} {B newId initId:String}
theorem JH (F:ExcBaseFacts B newId initId bmB) {x:Str} {np cpos pos:Pos} {args:List Expr} {Q:Flow->Shared->Prop}
   (hbase:bm.contains (.type "BaseException")=true) (hh:A.handled=none) (hplain:(backTo cpos (starEach args env)).any (·.1)=false)
   (h:wpAny (model prog w) A (eval (.Name x np) env) (fun f s₁=>f=.ref C/\wpAny (model prog w) A (evalArgs (.ref C) true (backTo cpos (starEach args env)) [])
     (fun a s₂=>a.kw=[]/\a.pos.length<=sizeLine/\∃ mN fI oI,s₂.heap.get? C=some (excClassObj nm q C N bs bm hdct sn sub ab col dd k0 k1 k2 k3 k5 newId)/\s₂.heap.Ns N mN/\OwnTail s₂.heap bmB bm/\mN "__init__"=some (.ref fI)/\s₂.heap.get? fI=some oI/\oI.cls=.type "function" /\
       ∀ h' e,Heap.MadeExcOf s₂.heap h' e (.ref C) a.pos->wpAny (model prog w) (A.under (.builtin "type.__call__" ⟨.ref C::a.pos,[]⟩)) (call (.ref fI) (.ref e::a.pos)) (fun r s'=>r=.none /\
         s'.heap.get? C=some (excClassObj nm q C N bs bm hdct sn sub ab col dd k0 k1 k2 k3 k5 newId)/\(∃ a0 od sl,s'.heap.get? e=some { cls:=.ref C,dict:=od,data:=.fields #[a0,.none,.none,.none,.bool false,.none],slots:=sl })/\E (.ref e) s') E { s₂ with heap:=h' }) E s₁) E s) :
   wpAny (model prog w) A (exec (.Raise (some (.Call (.Name x np) args [] cpos)) none pos) env) Q E s:=by
 rw [arm_exec_Raise]
 first
   | refine aa (cY (Cy (C:=C) (nm:=nm) (q:=q) (N:=N) (bs:=bs) (bm:=bm) (hdct:=hdct) (sn:=sn) (sub:=sub) (ab:=ab) (col:=col) (dd:=dd) (k0:=k0) (k1:=k1) (k2:=k2) (k3:=k3) (k5:=k5) (newId:=newId) hbase hh (aa (bg (lR (bg h (fun f s₁ h₁=>?_) fun _ _ x=>x)) (fun v s₃ h₃=>aa (cY (ao h₃))) fun _ _ x=>x))))
   | (simp only [evalOpt,Option.map];refine aa (cY (Cy (C:=C) (nm:=nm) (q:=q) (N:=N) (bs:=bs) (bm:=bm) (hdct:=hdct) (sn:=sn) (sub:=sub) (ab:=ab) (col:=col) (dd:=dd) (k0:=k0) (k1:=k1) (k2:=k2) (k3:=k3) (k5:=k5) (newId:=newId) hbase hh (aa (bg (lR (bg h (fun f s₁ h₁=>?_) fun _ _ x=>x)) (fun v s₃ h₃=>aa (cY (ao h₃))) fun _ _ x=>x)))))
   | (refine aa (cY (Cy (C:=C) (nm:=nm) (q:=q) (N:=N) (bs:=bs) (bm:=bm) (hdct:=hdct) (sn:=sn) (sub:=sub) (ab:=ab) (col:=col) (dd:=dd) (k0:=k0) (k1:=k1) (k2:=k2) (k3:=k3) (k5:=k5) (newId:=newId) hbase hh ?_));refine aa (bg (lR (bg h (fun f s₁ h₁=>?_) fun _ _ x=>x)) (fun v s₃ h₃=>aa (cY (ao h₃))) fun _ _ x=>x))
 obtain ⟨rfl,h₁⟩:=h₁;unfold callWith;refine aa (bD (bg h₁ (fun a s₂ h₂=>aa (cY ?_)) fun _ _ x=>x));obtain ⟨apos,akw⟩:=a;obtain ⟨hkw,hlen,mN,fI,oI,hC,hn,T,hi,hf,hfc,h₂⟩:=h₂;obtain rfl:akw=[]:=hkw;obtain ⟨hp,g,d,tk,os⟩:=s₂;simp only [hplain];refine aa (wpAny_keeperOf_exc hC ?_);refine aa (Vy F T hC hn hi hf hfc (fun h' e hm=>bg (h₂ h' e hm) (fun r s' hr=>⟨hr.1,aa (bD (wpAny_point (ao ?_)))⟩) fun _ _ y=>y) hlen);obtain ⟨_,c1,⟨a0,od,sl,c2⟩,c3⟩:=hr;exact ⟨e,a0,od,sl,rfl,c1,c2,c3⟩
end
def ExN (ea:Addr) (cls:Value) (od:Option Addr):HO:=.ext fun h=>∃ a0 sl,h.get? ea=some { cls:=cls,dict:=od,data:=.fields #[a0,.none,.none,.none,.bool false,.none],slots:=sl }
def del (H:Hp) (a:Addr):Hp:=fun b=>if b=a then none else H b
theorem GC {H:Hp} {a b:Addr} (h:b≠a):del H a b=H b:=aj h
theorem Iy {H:Hp} {a:Addr}:del H a a=none:=am rfl
section
variable {X:Cx} {pins:List (Addr × Obj)} {σ:St} {H:Hp} {s:Shared}
theorem Inv.trackN {ea:Addr} {cls:Value} {od:Option Addr} (I:Inv X pins σ H s) (l:Loose X pins H ea) (e:∃ a0 sl,s.heap.get? ea=some { cls:=cls,dict:=od,data:=.fields #[a0,.none,.none,.none,.bool false,.none],slots:=sl }):Inv X pins σ (upd H ea (ExN ea cls od)) s:=by
 have ne:∀ b,b≠ea->upd H ea (ExN ea cls od) b=H b:=fun b z=>aR z;have nt:∀ b u,H b=some u->upd H ea (ExN ea cls od) b=some u:=fun b u z=>by rw [ne b (dc z l.un)];exact z
 refine ⟨I.ok,I.os,I.bare,⟨I.base.keep,I.base.slot,fun b o q n x=>?_,I.base.there,fun b xs q=>nt _ _ (I.base.tups b xs q),fun b o u q=>nt _ _ (I.base.frzs b o u q),fun b ps q=>?_⟩,I.loc,I.cell,?_,fun x c q=>?_,fun p hp=>?_,?_,I.len⟩
 . rw [ne b (by rintro rfl;rw [l.new] at q;cases q)];exact I.base.free b o q n x
 . obtain ⟨more,z⟩:=I.base.tbls b ps q;exact ⟨more,nt _ _ z⟩
 . rw [ne _ (Ne.symm l.loc)];exact I.free
 . rw [ne _ (l.cel x c q)];exact I.freeC x c q
 . obtain ⟨z1,z2,z3,z4,z5⟩:=I.pin p hp;exact ⟨z1,by rw [ne _ (l.pin p hp)];exact z2,z3,z4,z5⟩
 . intro b u q;by_cases z:b=ea
   . subst z;rw [aq] at q;cases q;obtain ⟨a0,sl,h1⟩:=e;refine ⟨⟨a0,sl,h1⟩,⟨_,h1⟩,?_⟩;rintro g1 g2 ⟨a,l,a1⟩ kk;exact ⟨a,l,kk _ a1⟩
   . rw [ne b z] at q;exact (I.hok b u q).stay (fun _ _ _ r=>r) (fun c r=>nt _ _ r) fun c xs r=>nt _ _ r
theorem Inv.untrack {ea:Addr} {φ:Heap->Prop} (I:Inv X pins σ H s) (e:H ea=some (.ext φ)):Inv X pins σ (del H ea) s:=by
 have nt:∀ b u,H b=some u->b≠ea->del H ea b=some u:=fun b u z n=>by rw [GC n];exact z
 have nn:∀ b,H b=none->del H ea b=none:=fun b z=>by
   by_cases q:b=ea
   . rw [q,Iy]
   . rw [GC q];exact z
 refine ⟨I.ok,I.os,I.bare,⟨I.base.keep,I.base.slot,fun b o q n x=>nn _ (I.base.free b o q n x),I.base.there,fun b xs q=>?_,fun b o u q=>?_,fun b ps q=>?_⟩,I.loc,I.cell,nn _ I.free,fun x c q=>nn _ (I.freeC x c q),fun p hp=>?_,?_,I.len⟩
 . have z:=I.base.tups b xs q;exact nt _ _ z (by rintro rfl;rw [e] at z;cases z)
 . have z:=I.base.frzs b o u q;exact nt _ _ z (by rintro rfl;rw [e] at z;cases z)
 . obtain ⟨more,z⟩:=I.base.tbls b ps q;exact ⟨more,nt _ _ z (by rintro rfl;rw [e] at z;cases z)⟩
 . obtain ⟨z1,z2,z3,z4,z5⟩:=I.pin p hp;exact ⟨z1,nn _ z2,z3,z4,z5⟩
 . intro b u q;have nb:b≠ea:=by rintro rfl;rw [Iy] at q;cases q
   rw [GC nb] at q;exact (I.hok b u q).stay (fun _ _ _ r=>r) (fun c r=>nt _ _ r (by rintro rfl;rw [e] at r;cases r)) fun c xs r=>nt _ _ r (by rintro rfl;rw [e] at r;cases r)
end
def Ug (X:Cx) (E:XK):Prop:=∀ (pins:List (Addr × Obj)) (σ:St) (H:Hp) (s:Shared) (ea:Addr) (cls:Value) (od:Option Addr),Inv X pins σ H s->uu s.heap ea cls od .none->Loose X pins H ea->E cls od H->X.xe (.ref ea) s
section
variable {P:Program} {w:World} {K:PySem.W.Frag} {mg:Str->Option Value} {base:Heap} {N:List Str} {qual:Str} {scope:Scope} {f:Addr} {cd:Value} {A:Around} {outer:List Env} {s:Shared} {H:Hp} {E:XK}
theorem cIa:Ug (wA (CXe P w) P w K mg base N qual scope f cd A outer s H E) E:=by
 intro pins σ H1 s1 ea cls od J er le q;refine NF (base:=base) J.ok.frames J.stack rfl er fun h2 T' er' k nT=>?_;have fr:∀ b∈frs (envOfC qual scope s.heap.objs.size f cd::outer),H1 b=none:=J.stkFree;refine ⟨ea,T',cls,od,H1,rfl,J.os,J.bare,Js J k ?_,DD J.hok k fr ?_,le.un,F7 J.hok nT,le.new,uB J nT,er',q⟩
 . intro b hb;rw [aI.mp hb];exact le.new
 . intro b hb;rw [aI.mp hb];exact le.un
end
theorem UA {K:PySem.W.Frag} {h:Heap} {N:Addr} {mg:Str->Option Value} {n:Str} {v:Value} (X:K.In h) (G:h.Ns N mg) (e:PySem.W.nsIn K N n=some (some v)):mg n=some v:=by
 obtain ⟨o,es,ep,ho,hd,_,hf⟩:=G;unfold PySem.W.nsIn at e;split at e
 . rename_i c d es' n' sl q
   have:=X _ _ q;rw [ho] at this;cases this;cases hd;split at e
   . rename_i en he
     cases e;rw [<- hf];unfold nsFind findBy;rw [<- Array.find?_toList,he]
     rfl
   . rename_i he
     split at e <;> cases e
 . cases e
def GK (K:PySem.W.Frag) (C fI:Addr):Prop:=∃ (nm qn:Str) (N:Addr) (bs bm:List Value) (hdct:Bool) (sn:List Str) (sub:List Value) (ab:Bool) (col:Option Bool) (dd:Option Addr) (k0 k1 k2 k3 k5:Option Value),
   K.lookup C=some (excClassObj nm qn C N bs bm hdct sn sub ab col dd k0 k1 k2 k3 k5 "ValueError.__new__")/\PySem.W.nsOkIn K N=true/\PySem.W.nsIn K N "__init__"=some (some (.ref fI))/\PySem.W.tailIn K bmV bm=true/\PySem.W.isFn K (.ref fI)=true
def cOa (C:Addr) (sp:Sp) (E:XK) (t:TA):TS:=fun _ σ H=>t σ H fun vs H1=>vs.length<=sizeLine/\∀ ea,H1 ea=none->sp (.ref ea::vs) (upd H1 ea (ExN ea (.ref C) none)) (fun v H2=>v=.non/\∃ od,H2 ea=some (ExN ea (.ref C) od)/\E (.ref C) od (del H2 ea)) fun _ _ _=>False
section
variable {X:Cx} {x:Str} {np cpos pos:Pos} {e0:Expr} {es:List Expr} {t:TA} {C fI:Addr} {E:XK} {CX:CXT} {k:Nat} {fd:FuncData} {ps:List Str} {sp:Sp}
theorem Xx (q:GK X.K C fI) (F:FnOk X.prog X.w X.K X.mg X.base CX k fI fd ps sp) (hq:cr CX) (hr:Room (k+1) X.A) (hb:Binds X.K fd ps []) (hx:X.ex=[]) (hc:X.calm=true) (hR:Ug X E) (hg:Gl X x) (hm:X.mg x=some (.ref C)) (ha:PA X (e0::es) t) (hdb:(x == ("__debug__":Str))=false:=by decide)
   (he:starEach (e0::es) X.env=(false,eval e0 X.env)::starEach es X.env:=by rfl) (hpl:(backTo cpos (starEach es X.env)).any (·.1)=false:=by rfl):PS X (.Raise (some (.Call (.Name x np) (e0::es) [] cpos)) none pos) (cOa C sp E t):=by
 intro pins s σ H D I h;obtain ⟨nm,qn,N,bs,bm,hdct,sn,sub,ab,col,dd,k0,k1,k2,k3,k5,ho,z5,z6,z4,z7⟩:=q;have B:=I.mod.kin;have T0:=lB B z4;have N0:X.base.Ns N (X.base.nsMap N):=.of_isNs (PySem.W.isNs_of_in B z5);have n0:=UA B N0 z6;obtain ⟨oI,lI,cI⟩:∃ oI,X.K.lookup fI=some oI/\oI.cls=.type "function":=by
   have z:=ja.mp z7;unfold PySem.W.typeIn at z;exact bM.mp z
 have hp:(backTo cpos (starEach (e0::es) X.env)).any (·.1)=false:=by
   rw [he];show (false || (backTo cpos (starEach es X.env)).any (·.1))=false;rw [hpl]
   rfl
 refine JH (C:=C) (nm:=nm) (q:=qn) (N:=N) (bs:=bs) (bm:=bm) (hdct:=hdct) (sn:=sn) (sub:=sub) (ab:=ab) (col:=col) (dd:=dd) (k0:=k0) (k1:=k1) (k2:=k2) (k3:=k3) (k5:=k5) hZ
   (T0.hasType (by decide +kernel)) (I.ok.hd hc) hp (uF I hg hm ⟨rfl,?_⟩ hdb)
 have g:=ha cpos pins s σ H _ I h;rw [he] at g ⊢;refine ii (thn g fun us s1 ⟨vs,H1,I1,r1,q1⟩=>⟨rfl,by show us.length<=_;rw [<- r1.length];exact q1.1,X.base.nsMap N,fI,oI,I1.bk _ _ (B _ _ ho),N0.keeps I1.bk,T0.keeps I1.bk,n0,I1.bk _ _ (B _ _ lI),cI,fun h' ea m=>?_⟩);obtain ⟨tt,m1,_,_⟩:=m.there;have le:Loose X pins H1 ea:=by
   obtain ⟨a1,a2,a3⟩:=I1.apart m.new;refine ⟨F7 I1.hok m.new,?_,a1,a2,a3⟩;rcases I1.young m.new with y|y
   . exact y
   . rw [hx] at y;cases y
 have I2:Inv X pins σ (upd H1 ea (ExN ea (.ref C) none)) { s1 with heap:=h' }:=Inv.trackN (I1.kept (t':=s1.toks) m.keeps) le ⟨_,_,m1⟩;have sp1:=q1.2 ea le.un;have r2:Vals (V.ref ea::vs) (Value.ref ea::us):=.cons rfl r1;have hl:(Value.ref ea::us).length=ps.length:=by rw [<- r2.length];exact F.len _ _ _ _ sp1
 refine fw (g6 (F.run _ X.stack _ _ ⟨Value.ref ea::us,[]⟩ (Value.ref ea::us) _ _ _ (hr.make C us []) (I2.env0.make C us []) (by have:=hb { s1 with heap:=h' } (Value.ref ea::us) I2.kIn (by rw [bG];exact hl);rw [bG] at this;exact this) r2 sp1) fun r s' hq'=>?_);cases r with
 | error e=>exact (hq _ _ _ _ _ hq').elim
 | ok fl =>
   cases fl with
   | ret u =>
     obtain ⟨v,H',I3,rv,ev,od,e3,q3⟩:=I2.after hq';subst ev;obtain rfl:u=Value.none:=rv;obtain ⟨⟨a0,sl,e4⟩,_,_⟩:=(show ObjOk X.prog X.w H' s'.heap ea (ExN ea (.ref C) od) from I3.hok ea _ e3);refine ⟨rfl,I3.bk _ _ (B _ _ ho),⟨a0,od,sl,e4⟩,?_⟩;refine hR pins σ (del H' ea) s' ea (.ref C) od (I3.untrack e3) ⟨_,_,e4,rfl,rfl,rfl,rfl,rfl⟩ ⟨Iy,le.new,le.loc,le.cel,le.pin⟩ q3
   | next=>exact False.elim hq'
   | brk=>exact False.elim hq'
   | cont=>exact False.elim hq'
end
structure BaseIn (K:PySem.W.Frag) (Tl:Addr):Prop where
 ga:PySem.W.specialIn K (.ref Tl) "__getattribute__"=some (some (.builtin "type.__getattribute__"))
 rd:PySem.W.readsIn K Tl (.type "type")=true
 fd:PySem.W.findCls K (.ref Tl) (.type "type") "__init__"=some (.val (.builtin "ValueError.__init__"))
def Wu (K:PySem.W.Frag) (t:TA):TE:=fun σ H Q=>t σ H fun vs H1=>∃ ea C fI od gm,vs=.ref ea::gm/\gm.length<=sizeLine/\GK K C fI/\H1 ea=some (ExN ea (.ref C) od)/\Q .non H1
section
variable {X:Cx} {x:Str} {np apos pos:Pos} {e0:Expr} {es:List Expr} {t:TA} {Tl:Addr} {pl:Sem Bool}
theorem Th (b:BaseIn X.K Tl) (hg:Gl X x) (hm:X.mg x=some (.ref Tl)) (ha:PA X (e0::es) t) (hdb:(x == ("__debug__":Str))=false:=by decide)
   (he:starEach (e0::es) X.env=(false,eval e0 X.env)::starEach es X.env:=by rfl) (hpl:(backTo pos (starEach es X.env)).any (·.1)=false:=by rfl)
   (ht:eval (.Call (.Attribute (.Name x np) "__init__" apos) (e0::es) [] pos) X.env=(do
     let ov <- eval (.Name x np) X.env
     standAt apos.atName
     let (f,first) <- holding [ov] (getMethod ov "__init__" pl)
     callWith pos f first (backTo pos (starEach (e0::es) X.env)) (backToKw pos (keywordEach [] X.env))):=by rfl) :
   PE X (.Call (.Attribute (.Name x np) "__init__" apos) (e0::es) [] pos) (Wu X.K t):=by
 intro pins s σ H Q I h;refine PySem.W.methodCall_KW (pl:=pl) (uF I hg hm ?_ hdb) ht;refine PySem.W.method_cls I.kIn b.ga (PySem.W.cls_value I.kIn b.rd b.fd (by decide +kernel) ?_);have I0:=I.tok (s.toks+1);have g0:=ha pos pins _ σ H _ I0 h;rw [he] at g0 ⊢;refine PySem.W.callWith_of (P:=fun _=>True) (by show ((false || (backTo pos (starEach es X.env)).any (·.1)) || false)=false;rw [hpl];rfl) (fun h _=>⟨.machine,.inr (.inl rfl),.now⟩) (ii (thn g0 fun us s1 ⟨vs,H1,I1,r1,ea,C,fI,od,gm,ev,hl,q,e1,q1⟩=>⟨trivial,?_⟩));subst ev;obtain ⟨u,us',rfl,ru,rr⟩:∃ u us',us=u::us'/\RelV (.ref ea) u/\Vals gm us':=by cases r1 with|cons a c=>exact ⟨_,_,rfl,a,c⟩
 obtain rfl:u=Value.ref ea:=ru;obtain ⟨nm,qn,N,bs,bm,hdct,sn,sub,ab,col,dd,k0,k1,k2,k3,k5,ho,z5,z6,z4,z7⟩:=q;have B:=I.mod.kin;have T0:=(lB B z4).keeps I1.bk;have hC:=I1.bk _ _ (B _ _ ho);obtain ⟨⟨a0,sl,e4⟩,_,_⟩:=(show ObjOk X.prog X.w H1 s1.heap ea (ExN ea (.ref C) od) from I1.hok ea _ e1);have F:=hZ;obtain ⟨hp,g,d,tk,os⟩:=s1;refine fw (gV F.init.plain F.initEntry (wpAny_check_init_subT F T0 hC e4 rfl ?_))
 wp_walk
 have ul:us'.length=gm.length:=rr.length.symm;rw [aj (by rw [aG];omega)]
 wp_walk
 have lt:ea<hp.objs.size:=aw e4;have e5:(hp.push { cls:=Value.type "tuple",data:=Data.seq us'.toArray }).get? ea=some { cls:=.ref C,dict:=od,data:=.fields #[a0,.none,.none,.none,.bool false,.none],slots:=sl }:=ap _ e4;have fin:EP X pins σ Q .none ⟨(hp.push { cls:=Value.type "tuple",data:=Data.seq us'.toArray }).update ea (Obj.mapFields fun x=>x.setIfInBounds 0 (Value.ref hp.objs.size)),g,d,tk,os⟩:=by
   have e6:=bI (Obj.mapFields fun x=>x.setIfInBounds 0 (Value.ref hp.objs.size)) e5 rfl;have I2:=I1.write (x:=ea) (e:=ea) (o:=ExN ea (.ref C) od) (t':=tk) (h':=(hp.push { cls:=Value.type "tuple",data:=Data.seq us'.toArray }).update ea (Obj.mapFields fun x=>x.setIfInBounds 0 (Value.ref hp.objs.size))) (by rw [e1];trivial) (.inl rfl) (fun b u n z=>by rw [bR _ _ (Ne.symm n)];exact ap _ z) ⟨_,e6⟩
     ⟨⟨_,_,e6⟩,⟨_,e6⟩,by
       rintro g1 g2 ⟨a,l,a1⟩ kk;exact ⟨a,l,kk _ a1⟩⟩
   have es:upd H1 ea (ExN ea (.ref C) od)=H1:=by
     funext b
     by_cases z:b=ea
     . rw [z,aq,e1]
     . rw [aR z]
   rw [es] at I2;exact ⟨.non,H1,I2,rfl,q1⟩
 show wpAny _ _ (match a0 with|Value.ref a=>letGo [a0]|x=>pure ()) _ _ _;cases a0 with
 | ref a=>exact jY (ao fin)
 | _=>exact ao (ao fin)
end
end L2
namespace L2
open PySem PySem.Spec PyProof.Rows PySem.W PySem.Builtin PySem.Builtin.ObjectAttr
theorem VF (self:Value):refuseLoop self "__setattr__" bmV=pure ():=by kernel_rfl
section
variable {K:PySem.W.Frag} {prog:Program} {w:World} {A:Around} {s:Shared} {x C Tl:Addr} {R:Result->Shared->Prop}
theorem bSa {ox:Obj} {od:Option Obj} {name:Str} {tk:Tok} {v:Value} {cd:ClassData} (X:K.In s.heap) (I:PySem.W.InstAt s.heap x ox C od) (hc:PySem.W.clsIn K C=some cd) (hmro:cd.mro=.ref C::.ref Tl::bmV) (ht:PySem.W.takerIn K C name=some none)
   (h:∀ b,wpAny (model prog w) A.in1 (storeInOwnDict (.ref x) (.ref C) (.str name tk) name v b)
     (fun fin s'=>match fin with|.done f=>R (.ok f) s'|.again c'=>c'.quiet=true/\codeAny (model prog w) A c' R s') (fun e s'=>R (.error e) s') s) :
   codeAny (model prog w) A (.call (.builtin "object.__setattr__") ⟨[.ref x,.str name tk,v],[]⟩) R s:=by
 have SF:=PySem.F.store_object;have ne:cd.mro.isEmpty=false:=by rw [hmro];rfl
 have sub:PySem.W.Looks (model prog w) s.heap (isInstance (.ref x) (.type "object")) true:=I.type.andThen (km X (by unfold PySem.W.mroIn;rw [hc,mE,aj (by rw [ne];decide),hmro];simp));refine gV SF.slot.plain SF.entry (@check_slot (model prog w) _ _ s "object.__setattr__" "object" "__setattr__" (.ref x) [.str name tk,v] [] _ SF.kind SF.split sub (SF.args (.ref x) (.str name tk) v) ?_);obtain ⟨attr,ha,hr⟩:=Option.bind_eq_some_iff.mp ht;have hm:PySem.W.Looks (model prog w) s.heap (mroOf (.ref C)) cd.mro:=(kN X hc).andThen .now;have L3:PySem.W.Looks (model prog w) s.heap (storeTaker? attr) none:=by
   cases attr with
   | none=>exact .now
   | some a =>
     obtain ⟨b,hb,z⟩:=bM.mp hr;refine (PySem.W.looks_takesIn X hb).andThen ?_;cases b
     . exact .now
     . cases z
 rw [PySem.W.osa_eq,refuse_eq];refine aa (aa (I.type.here (aa (hm.here ?_))));rw [hmro,refuseLoop_ref,refuseLoop_ref,VF];refine ao (aa (I.type.here (aa ((pj X ha).here (aa (L3.here ?_))))));exact h _
theorem Ws {name:Str} {tk:Tok} {v:Value} {b:Bool} {oe:Obj} {vs:Array Value} {cd:ClassData} {Q:Fin->Shared->Prop} {E:Value->Shared->Prop} (X:K.In s.heap) (he:s.heap.get? x=some oe) (h1:oe.cls=.ref C) (h2:oe.dict=none) (h3:oe.data=.fields vs) (hc:PySem.W.clsIn K C=some cd) (hh:cd.hasDict=true)
   (h:∀ h' dx,s.heap.get? dx=none->h'.get? x=some { oe with dict:=some dx }->h'.Ns1 dx (fun y=>if y=name then some v else none)->(∀ c o,c≠x->s.heap.get? c=some o->h'.get? c=some o)->Q (.done (.ret .none)) { s with heap:=h',toks:=s.toks+1 }) :
   wpAny (model prog w) A (storeInOwnDict (.ref x) (.ref C) (.str name tk) name v b) Q E s:=by
 obtain ⟨hp,g,d,t,os⟩:=s;have L:=kN (M:=model prog w) X hc;unfold storeInOwnDict ownDictForStores instanceDict;refine aa (ao ?_);simp only [show (Value.ref C == Value.type "module")=false from rfl,bB,if_false];refine aa (aa (fF he ?_));rw [h1];refine aa (L.at ?_);rw [hh,h2,h3];show wpAny _ _ (do let d <- alloc { cls:=Value.type "dict",data:=Data.dict #[] };update x fun o=>{ cls:=o.cls,dict:=some d,data:=o.data,slots:=o.slots };dictMade (Value.ref C) x d) _ _ _;have ex:=ap { cls:=Value.type "dict",data:=Data.dict #[] } he;have lt:x<hp.objs.size:=aw he;refine aa (wpAny_alloc' (aa (wpAny_update' (o:=oe) ex ?_)));show wpAny _ _ (pure (some hp.objs.size)) _ _ _;refine ao ?_;show wpAny _ _ (storeInDict hp.objs.size (Value.str name tk) name v) _ _ _;unfold storeInDict;refine aa (ao (aa ?_));have ed:((hp.push { cls:=Value.type "dict",data:=Data.dict #[] }).update x fun o=>{ cls:=o.cls,dict:=some hp.objs.size,data:=o.data,slots:=o.slots }).get? hp.objs.size=some { cls:=Value.type "dict",data:=Data.dict #[] }:=by
   rw [bR _ _ (aE lt)];exact aJ _ rfl
 have ns:((hp.push { cls:=Value.type "dict",data:=Data.dict #[] }).update x fun o=>{ cls:=o.cls,dict:=some hp.objs.size,data:=o.data,slots:=o.slots }).Ns1 hp.objs.size (fun _=>none):=by
   refine ⟨_,#[],_,ed,rfl,?_,?_,fun _=>rfl⟩
   . intro e he;simp at he
   . first|exact uniqKeys_empty|(unfold UniqKeys;simp)|(intro i j;simp)|decide
 refine wpAny_nsSet1 (s:=⟨_,g,d,t,os⟩) ns fun h' hn2 hs2=>?_;obtain ⟨oD,esD,epD,hoD,hdD,hcD⟩:=hn2.count (PySem.Within.cons name v (ns:=[]) (fun _ z=>(z rfl).elim));refine aa (wpAny_lookBehind hoD (by rw [hdD];exact pastItsLine_dict (bP hcD (by show 1<=sizeLine+1;omega))) ?_);refine ao (h h' hp.objs.size (fW (aA _)) ?_ hn2 fun c o nc e=>?_)
 . rw [hs2.2 _ (aE lt),bI _ ex (cM h3)]
 . have lc:=aw e;rw [hs2.2 _ (aE lc),bR _ _ (Ne.symm nc)];exact ap _ e
end
section
variable {X:Cx} {pins:List (Addr × Obj)} {σ:St} {H:Hp} {s:Shared}
theorem Inv.trackO {a:Addr} {o:HO} (I:Inv X pins σ H s) (l:Loose X pins H a) (ok:ObjOk X.prog X.w (upd H a o) s.heap a o):Inv X pins σ (upd H a o) s:=by
 have ne:∀ b,b≠a->upd H a o b=H b:=fun b z=>aR z;have nt:∀ b u,H b=some u->upd H a o b=some u:=fun b u z=>by rw [ne b (dc z l.un)];exact z
 refine ⟨I.ok,I.os,I.bare,⟨I.base.keep,I.base.slot,fun b o q n x=>?_,I.base.there,fun b xs q=>nt _ _ (I.base.tups b xs q),fun b o u q=>nt _ _ (I.base.frzs b o u q),fun b ps q=>?_⟩,I.loc,I.cell,?_,fun x c q=>?_,fun p hp=>?_,?_,I.len⟩
 . rw [ne b (by rintro rfl;rw [l.new] at q;cases q)];exact I.base.free b o q n x
 . obtain ⟨more,z⟩:=I.base.tbls b ps q;exact ⟨more,nt _ _ z⟩
 . rw [ne _ (Ne.symm l.loc)];exact I.free
 . rw [ne _ (l.cel x c q)];exact I.freeC x c q
 . obtain ⟨z1,z2,z3,z4,z5⟩:=I.pin p hp;exact ⟨z1,by rw [ne _ (l.pin p hp)];exact z2,z3,z4,z5⟩
 . intro b u q;by_cases z:b=a
   . subst z;rw [aq] at q;cases q;exact ok
   . rw [ne b z] at q;exact (I.hok b u q).stay (fun _ _ _ r=>r) (fun c r=>nt _ _ r) fun c xs r=>nt _ _ r
end
structure XSet (K:PySem.W.Frag) (C Tl:Addr) (f:Str):Prop where
 sa:PySem.W.findIn K (.ref C) "__setattr__"=some (some (.builtin "object.__setattr__"))
 cd:∃ cd,PySem.W.clsIn K C=some cd/\cd.mro=.ref C::.ref Tl::bmV/\cd.hasDict=true
 tk:PySem.W.takerIn K C f=some none
section
variable {X:Cx} {pins:List (Addr × Obj)} {σ:St} {H:Hp} {s:Shared} {A:Around} {E:Value->Shared->Prop} {ea C Tl:Addr} {f:Str}
theorem cFa {y:V} {u:Value} {Q:Unit->Shared->Prop} (h0:X.ex=[]) (I:Inv X pins σ H s) (e:H ea=some (ExN ea (.ref C) none)) (c:XSet X.K C Tl f) (ry:RelV y u)
   (h:∀ s' dx,H dx=none->dx≠ea->Inv X pins σ (upd (upd H ea (ExN ea (.ref C) (some dx))) dx (.xd [(f,y)])) s'->Q () s'):wpAny (model X.prog X.w) A (setAttr (.ref ea) f u) Q E s:=by
 obtain ⟨⟨a0,sl,e4⟩,_,_⟩:=(show ObjOk X.prog X.w H s.heap ea (ExN ea (.ref C) none) from I.hok ea _ e);obtain ⟨cd,hc,hm,hd⟩:=c.cd;have J:PySem.W.InstAt s.heap ea _ C none:=⟨e4,rfl,rfl,trivial⟩;refine PySem.W.set_plain I.kIn J c.sa (bSa (s:={ s with toks:=s.toks+1 }) (Tl:=Tl) I.kIn J hc hm c.tk fun b=>Ws (s:={ s with toks:=s.toks+1 }) I.kIn e4 rfl rfl rfl hc hd fun h' dx nd hx hn kp=>?_);have ne:dx≠ea:=fun z=>by rw [z] at nd;rw [show s.heap.get? ea=none from nd] at e4;cases e4
 have hu:=F7 I.hok nd;have I2:=I.write (x:=ea) (e:=ea) (o:=ExN ea (.ref C) (some dx)) (t':=s.toks+1+1) (h':=h') (by rw [e];trivial) (.inl rfl) (fun b u n z=>kp b u n z) ⟨_,hx⟩
   ⟨⟨_,_,hx⟩,⟨_,hx⟩,by
     rintro g1 g2 ⟨a,l,a1⟩ kk;exact ⟨a,l,kk _ a1⟩⟩
 have l2:Loose X pins (upd H ea (ExN ea (.ref C) (some dx))) dx:=by
   obtain ⟨a1,a2,a3⟩:=I.apart nd;refine ⟨by rw [aR ne];exact hu,?_,a1,a2,a3⟩;rcases I.young nd with z|z
   . exact z
   . rw [h0] at z;cases z
 refine h _ dx hu ne (I2.trackO l2 ⟨_,hn,fun g=>?_⟩);show RelO (List.lookup g [(f,y)]) (if g=f then some u else none);by_cases q:g=f
 . rw [am q,q,List.lookup_cons_self];exact ry
 . rw [aj q,bW,show (g == f)=false from by simpa using q];trivial
end
def eCa (K:PySem.W.Frag) (ta tv:TE) (f:Str):TS:=fun D σ H=>tv σ H fun y H1=>ta σ H1 fun x H2=>∃ ea C Tl,x=.ref ea/\H2 ea=some (ExN ea (.ref C) none)/\XSet K C Tl f/\∀ dx,H2 dx=none->dx≠ea->D.nx σ (upd (upd H2 ea (ExN ea (.ref C) (some dx))) dx (.xd [(f,y)]))
section
variable {X:Cx} {o value:Expr} {ta tv:TE} {f:Str} {pos pos':Pos}
theorem cza (h0:X.ex=[]) (ha:PE X o ta) (hv:PE X value tv) (hs:swapsWith value (some (.Attribute o f pos')) pos.line X.env=pure false):PS X (.Assign [.Attribute o f pos'] value pos) (eCa X.K ta tv f):=by
 intro pins s σ H D I h;refine plainObj_wpAny_Assign_Attribute (dg (hv pins s σ H _ I h) fun u s1 y H1 I1 ry q=>dg (ha pins s1 σ H1 _ I1 q) fun ov s2 x H2 I2 rx ⟨ea,C,Tl,ex,e2,c,q2⟩=>?_) hs;subst ex;obtain rfl:ov=Value.ref ea:=rx;exact cFa h0 I2 e2 c ry fun s3 dx n1 n2 I3=>⟨σ,_,I3,q2 dx n1 n2⟩
end
theorem cMa {K:PySem.W.Frag} {C Tl:Addr} {f:Str} {c0:Value} {dd:Option Addr} {cd:ClassData} {sl:Array (Option Value)} (l:K.lookup C=some ⟨c0,dd,.cls cd,sl⟩) (m:cd.mro=.ref C::.ref Tl::bmV) (h:PySem.W.hasDictIn K C=true)
   (s:PySem.W.findIn K (.ref C) "__setattr__"=some (some (.builtin "object.__setattr__"))) (a:PySem.W.findIn K (.ref C) f=some none):XSet K C Tl f:=by
 obtain ⟨cd',e,hd⟩:=mG h;have e2:PySem.W.clsIn K C=some cd:=by unfold PySem.W.clsIn;rw [l]
 rw [e2] at e;cases e;exact ⟨s,⟨cd,e2,m,hd⟩,by unfold PySem.W.takerIn;rw [a];rfl⟩
theorem Y4 {K:PySem.W.Frag} {C fI:Addr} {o:Obj} (nm qn:Str) (N:Addr) (bs bm:List Value) (hdct:Bool) (sn:List Str) (sub:List Value) (ab:Bool) (col:Option Bool) (dd:Option Addr) (k0 k1 k2 k3 k5:Option Value) (l:K.lookup C=some o)
   (e:o=excClassObj nm qn C N bs bm hdct sn sub ab col dd k0 k1 k2 k3 k5 "ValueError.__new__") (a:PySem.W.nsOkIn K N=true) (b:PySem.W.nsIn K N "__init__"=some (some (.ref fI))) (c:PySem.W.tailIn K bmV bm=true) (d:PySem.W.isFn K (.ref fI)=true):GK K C fI:=by
 subst e;exact ⟨_,_,_,_,_,_,_,_,_,_,_,_,_,_,_,_,l,a,b,c,d⟩
end L2
namespace L2
open PySem
def QQ (K:PySem.W.Frag) (C':Addr) (ts:TS) (tr:TH):TH:=fun D σ cls od H=>∃ C b,cls=.ref C/\PySem.W.mroIn K C (.ref C')=some b/\if b=true then ts D σ H else tr D σ cls od H
section
variable {X:Cx} {x:Str} {np pos:Pos} {C':Addr} {b0:Stmt} {suite:List Stmt} {gm:List ExceptHandler} {ts:TS} {tr:TH}
theorem eva (c':XCls X.K C') (hg:Gl X x) (hm:X.mg x=some (.ref C')) (hb:∀ e,PSs (X.held e).nox (b0::suite) ts) (hr:PHs X gm tr) (hdb:(x == ("__debug__":Str))=false:=by decide) :
   PHs X (.ExceptHandler (some (.Name x np)) none (b0::suite) pos::gm) (QQ X.K C' ts tr):=by
 intro pins s σ H D ea T cls od I er le lt h;obtain ⟨C,b,rfl,m,q⟩:=h;refine wpAny_handleBy_cons (codeAny_handlers_test (uF (X:=X.held (.ref ea)) (I.held _) hg hm ?_ hdb)) (by intro z;cases z);obtain ⟨oe,vs,h1,h2,h3,h4,h5,h6⟩:=id er.e;refine RQ I.kIn ⟨oe,h1,h2⟩ c' m ?_;cases b with
 | false=>exact hr pins s σ H D ea T _ od I er le lt (by simpa using q)
 | true =>
   rw [am rfl] at q;refine codeAny_handlers_suite (GR (fs:=frs X.stack) er fun h' er' k=>?_);have I1:Inv X pins σ H { s with heap:=h' }:=I.moved (tk:=s.toks) k fun b hb=>by rw [aI.mp hb];exact lt.all
   have I2:=I1.held (.ref ea);refine bg (hb (.ref ea) pins _ _ _ _ (I2.wish _) q) (fun f s3 z=>?_) fun _ _ z=>False.elim z;have back:∀ {σ':St} {H':Hp},Inv (X.held (.ref ea)).nox pins σ' H' s3->Inv X pins σ' H' s3:=fun J=>J.unwish.unheld I.ok.hd;dsimp only;cases f with
   | next =>
     obtain ⟨σ',H',J,z⟩:=z;exact ⟨_,H',back J,z⟩
   | brk =>
     obtain ⟨σ',H',J,z⟩:=z;exact ⟨_,H',back J,z⟩
   | cont =>
     obtain ⟨σ',H',J,z⟩:=z;exact ⟨_,H',back J,z⟩
   | ret u =>
     obtain ⟨v,σ',H',J,rv,z⟩:=z;exact ⟨v,_,H',back J,rv,z⟩
end
end L2
namespace Pb
open L2 PySem
theorem cVa {H:Hp} {ea dx:Addr} {a b c:HO} (ne:H ea=none) (nd:upd H ea a dx=none) (nde:dx≠ea):Same H (del (upd (upd (upd H ea a) ea b) dx c) ea):=fun q o e=>by
 have n1:q≠ea:=dc e ne;have n2:q≠dx:=fun z=>by rw [z] at e;rw [aR nde,e] at nd;cases nd
 rw [GC n1,aR n2,aR n1,aR n1];exact e
structure FirstBad (m:Int) (rs:List Road) (xs:List Int) (ss:List Stp) (i:Nat):Prop where
 bef:∀ j s,j<i->ss[j]?=some s->mm m rs (fM rs xs ss j) s=true
 bad:∃ s,ss[i]?=some s/\mm m rs (fM rs xs ss i) s=false
theorem FirstBad.not {m:Int} {rs:List Road} {xs:List Int} {ss:List Stp} {i:Nat} (h:FirstBad m rs xs ss i) (c:yC m rs xs ss):False:=by
 obtain ⟨s,hs,hc⟩:=h.bad;rw [c i s hs] at hc;cases hc
theorem aCa {m:Int} {rs:List Road} (g:Good m rs) {xs:List Int} {s:Stp} {t:Int} (h:cS rs s.1 s.2.1=some t):mm m rs xs s=(decide (0<s.2.2) && decide (t*s.2.2<=xs.getD s.1.toNat 0)):=by
 have ad:Adj rs s.1 s.2.1:=Dx.mp (by rw [h];rfl);obtain ⟨ar,br,_⟩:=g.adj ad;unfold mm tI tL;rw [h,bH ar.1,bH ar.2,bH ((CL g).mpr ad)];show (true && true && true && decide (1<=s.2.2) && decide (s.2.2*t<=_))=_;rw [rn]
 rfl
theorem Ym {m:Int} {rs:List Road} (g:Good m rs) {xs:List Int} {s:Stp} (h:cS rs s.1 s.2.1=none):mm m rs xs s=false:=by
 cases c:mm m rs xs s
 . rfl
 . unfold mm at c;rw [bq] at c;obtain ⟨k,e,_⟩:=FW g c.1;rw [e] at h;cases h
end Pb
namespace Pb
open L2 PySem
section
variable {m:Int} {rs:List Road} {r:Int} {par:Int->Int} {dep:Int->Nat} {st:Int->Int} {xs ys:List Int}
theorem TK {ys:List Int} (y0:∀ y∈ys,0<=y) (i:Nat):0<=ys.getD i 0:=by
 rw [List.getD];cases e:ys[i]? with
 | none=>exact i9 _
 | some y=>exact y0 y (bd e)
end
def cvL (xs ys:List Int):Bool:=(xs.zip ys).all fun p=>decide (p.2<=p.1)
theorem d6a {xs ys:List Int} (h:xs.length=ys.length):cvL xs ys=((List.range ys.length).map fun i=>decide (ys.getD i 0<=xs.getD i 0)).all id:=by
 rw [da,fk];unfold cvL;rw [fk]
 constructor
 . intro z b hb;obtain ⟨i,hi,rfl⟩:=cu.mp hb;have hi':=cN.mp hi;have:=z (xs[i],ys[i]) (by
     refine List.mem_iff_getElem.mpr ⟨i,by rw [nD];omega,?_⟩;rw [List.getElem_zip])
   show decide _=true;rw [List.getD,List.getD,aD hi',aD (show i<xs.length by omega)];exact this
 . rintro z p hp;obtain ⟨i,hi,rfl⟩:=qH hp;rw [nD] at hi;have:=z _ (cu.mpr ⟨i,cN.mpr (by omega),rfl⟩);rw [List.getElem_zip];change decide _=true at this;rw [List.getD,List.getD,aD (show i<ys.length by omega),aD (show i<xs.length by omega)] at this;exact this
end Pb
namespace L2
open PySem PySem.Spec PyProof.Rows
section
variable {X:Cx}
def eda (t:TE):TE:=fun σ H Q=>t σ H fun x H1=>∃ b,x=.bl b/\Q (.bl (b == true)) H1
end
end L2
namespace Pb
open PySem L2
theorem IJ {α β:Type} {R:α->β->Prop} {a:α} {b:β} (e:R a b):∀ {l:List α} {l':List β},Paired R l l'->Paired R (l++[a]) (l'++[b])
 | _,_,.nil=>.cons e .nil
 | _,_,.cons x xs=>.cons x (IJ e xs)
end Pb
namespace L2
open PySem PySem.Spec PyProof.Rows
section
variable {X:Cx}
def bLa (t:TE):TE:=fun σ H Q=>t σ H fun x H1=>∃ b,x=.bl b/\Q (.bl (b != false)) H1
end
end L2
namespace L2
open PySem Pb
theorem exa (xs ys:List Int):PyData.eqv (Bx xs) (Bx ys)=decide (xs=ys):=by
 unfold Bx;simp only [PyData.eqv];exact Q4 xs ys
end L2
namespace L2
open PySem PySem.Spec PyProof.Rows
def bxa (i j:Nat) (ta:TA):TS:=fun D σ H=>ta σ H fun vs H1=>∃ v w,vs=[v,w]/\D.nx ((σ.set i (some v)).set j (some w)) H1
end L2
namespace Pb
open L2 PySem PySem.W NumText
def ch:Nat->Nat->Nat
 | _,0=>1
 | 0,_+1=>0
 | n+1,k+1=>ch n k+ch n (k+1)
end Pb
namespace Pb
open L2 PySem PySem.W NumText
variable {fr be:Int->Bool} {ws:Int->Nat->Int}
theorem Uj {α β:Type} {R:α->β->Prop}:∀ {l:List α} {l':List β},Paired R l l'->Paired R l.reverse l'.reverse
 | _,_,.nil=>.nil
 | _,_,.cons e h=>by
   rw [fH,fH];exact IJ e (Uj h)
end Pb
namespace L2
open PySem PySem.Spec PyProof.Rows PySem.W
def LED (w:World):Bool:=!(w.params.followText "set-order")
theorem Al {prog:Program} {w:World} {A:Around} {E:Value->Shared->Prop} {s:Shared} {Q:Bool->Shared->Prop} (q:Q (w.params.followText "set-order") s):wpAny (model prog w) A setsByText Q E s:=by
 unfold setsByText;refine aa (wpAny_askSetting ?_);exact ao q
theorem bWa {prog:Program} {w:World} {A:Around} {E:Value->Shared->Prop} {s:Shared} (a:Value) {Q₁:Value->Shared->Prop}
   (q:Q₁ (.ref s.heap.objs.size) { s with heap:=s.heap.push { cls:=.type "set",data:=.set #[] 0 (SetTable.fresh 0 0 (LED w)) } }) :
   codeAny (model prog w) A (.call (.builtin "set.__new__") { pos:=[.type "set",a] }) (wants Q₁ E) s:=by
 refine gV F.plain_set_new F.entry_set_new ?_;rw [F.newCall_set_1];refine ao ?_;unfold Builtin.«set.__new__»;refine aa (m:=Builtin.Frozenset.newClass "set" _) ?_;unfold Builtin.Frozenset.newClass;dsimp only;rw [show isType (.type "set")=pure true from rfl];refine aa (ao ?_);rw [aj (by decide),sub_set_self];refine aa (ao ?_);rw [aj (by decide)];refine ao ?_;refine aa ?_;unfold newSet;refine aa (Al ?_);refine bX ?_ ?_
 . exact ao q
 . show (#[]:Array (Int × Value)).size<=sizeLine;exact bi _
def SetIs (h:Heap) (a:Addr) (es:Array (Int × Value)) (ep:Nat) (t:SetTable):Prop:=∃ o,h.get? a=some o/\o.ExactSet/\o.data=.set es ep t
theorem SetIs.put {h:Heap} {a:Addr} {es es':Array (Int × Value)} {ep:Nat} {t t':SetTable} (S:SetIs h a es ep t):SetIs (h.update a (Obj.putSet es' t')) a es' (ep+1) t':=by
 obtain ⟨o,h1,⟨c1,c2,c3⟩,h3⟩:=S;refine ⟨Obj.putSet es' t' o,?_,?_,?_⟩
 . exact bI _ h1 (by rw [putSet_of es' t' h3];unfold Obj.isFreed;simp [c1])
 . rw [putSet_of es' t' h3];exact ⟨c1,c2,c3⟩
 . rw [putSet_of es' t' h3]
theorem Tv {prog:Program} {w:World} {A:Around} {E:Value->Shared->Prop} {s:Shared} {a:Addr} {es:Array (Int × Value)} {ep:Nat} {t:SetTable} {n:Int} {tk:Tok} {Q:Bool->Shared->Prop}
   (S:SetIs s.heap a es ep t) (fit:t.fits es.size=true) (el:ElemsOf (intKind prog w) es.toList) (sz:es.size<100) (no:es.toList.findIdx? (fun e=>(intKind prog w).is n e.snd)=none)
   {es':Array (Int × Value)} {t':SetTable} (ly:layNew t es (hashInt n) (.int n tk)=(es',t',false,false)) (pl:t'.plain=true) (tf:t'.tooFull=false) (s':es'.size<100)
   (q:∀ h' tk',SetIs h' a es' (ep+1) t'->Heap.SameBut a s.heap h'->Q true { s with heap:=h',toks:=tk' }):wpAny (model prog w) A (setAdd a (.int n tk)) Q E s:=by
 unfold setAdd;refine bD (aa (mD ?_));unfold setAddHashed;refine bD ?_;rw [show (100000:Nat)=99999+1 from rfl,setAddHashedIn.eq_def];dsimp only;obtain ⟨o,h1,h2,h3⟩:=id S;refine aa (fB h1 h3 fit ?_);dsimp only;rw [am (byScan_of (knd:=intKind prog w) rfl (aM sz (by decide)) el)];refine aa ?_;unfold setAddByScan;refine aa (kR ?_);refine aa (wpAny_setScan_of (knd:=intKind prog w) (k:=n) (by show Value.isInt n (.int n tk)=true;simp [Value.isInt]) h1 h3 fit el ?_);rw [no];dsimp only;rw [ly];dsimp only;refine aa (show wpAny (model prog w) A (pure ()) _ _ _ from ao ?_);rw [am pl,hashByValue.eq_3];refine aa (ao ?_);rw [am rfl];refine aa (wpAny_storeSet_of h1 h3 ?_ (jr (aM s' (by decide))));rw [tf,aj (by decide)];refine ao (ao (q _ _ S.put ⟨?_,fun b hb=>?_⟩))
 . exact Heap.size_update ..
 . exact Heap.get?_update_ne _ _ _ _ hb
theorem bXa {prog:Program} {w:World} {A:Around} {E:Value->Shared->Prop} {s:Shared} {a:Addr} {es:Array (Int × Value)} {ep:Nat} {t:SetTable} {n:Int} {tk:Tok} {Q:Bool->Shared->Prop}
   (S:SetIs s.heap a es ep t) (fit:t.fits es.size=true) (el:ElemsOf (intKind prog w) es.toList) (sz:es.size<100) {j:Nat} (yes:es.toList.findIdx? (fun e=>(intKind prog w).is n e.snd)=some j)
   (q:∀ tk',Q false { s with toks:=tk' }):wpAny (model prog w) A (setAdd a (.int n tk)) Q E s:=by
 unfold setAdd;refine bD (aa (mD ?_));unfold setAddHashed;refine bD ?_;rw [show (100000:Nat)=99999+1 from rfl,setAddHashedIn.eq_def];dsimp only;obtain ⟨o,h1,h2,h3⟩:=id S;refine aa (fB h1 h3 fit ?_);dsimp only;rw [am (byScan_of (knd:=intKind prog w) rfl (aM sz (by decide)) el)];refine aa ?_;unfold setAddByScan;refine aa (kR ?_);refine aa (wpAny_setScan_of (knd:=intKind prog w) (k:=n) (by show Value.isInt n (.int n tk)=true;simp [Value.isInt]) h1 h3 fit el ?_);rw [yes];exact ao (ao (q _))
theorem YU {prog:Program} {w:World} {A:Around} {E:Value->Shared->Prop} {s:Shared} {v:Value} {Q:String->Shared->Prop} (h:s.TypeIs v "set") (q:∀ nm,Q nm s):wpAny (model prog w) A (typeNameOfCut 200 v) Q E s:=by
 unfold typeNameOfCut shownTypeOf;refine aa (aa (jv h ?_));rw [aj (by decide)];refine ao ?_;exact ao (q _)
theorem cHa {prog:Program} {w:World} {A:Around} {E:Value->Shared->Prop} {s:Shared} {l:Addr} {items:Array Value} {Q:Bool->Shared->Prop} (hl:s.heap.IsList l items) (q:Q false s):wpAny (model prog w) A (Builtin.Frozenset.isAnySet (.ref l)) Q E s:=by
 have ty:s.TypeIs (.ref l) "list":=hl.typeIs;unfold Builtin.Frozenset.isAnySet;refine aa (dQ ty F.sub_list_set ?_);exact dQ ty F.sub_list_frozenset q
theorem Zc {prog:Program} {w:World} {A:Around} {R:Result->Shared->Prop} {I:Addr} {fp wr:List Addr} {n:Nat} {P:Nat->Value->Prop} {St:Nat->Heap->Prop} (W:Walks prog w A.in1 I fp wr n P St) {S:Addr} (hS:S ∉ fp) (J:Nat->Heap->Prop)
   (step:∀ i v (s:Shared) Q E,i<n->P i v->J i s.heap->(∀ h' tk b,J (i+1) h'->Heap.SameBut S s.heap h'->Q b { s with heap:=h',toks:=tk })->wpAny (model prog w) A.in1 (setAdd S v) Q E s)
   (jf:∀ i h h',J i h->(∀ o,h.get? S=some o->h'.get? S=some o)->J i h') :
   ∀ (k i:Nat) (s:Shared),n - i=k->i<=n->St i s.heap->J i s.heap->(∀ h' tk,J n h'->(∀ b o,b ∉ S::wr->s.heap.get? b=some o->h'.get? b=some o)->R (.ok (.ret .none)) { s with heap:=h',toks:=tk })->codeAny (model prog w) A (.builtin "set.update.loop" { pos:=[.ref S,.ref I] }) R s:=by
 intro k
 induction k with
 | zero =>
   intro i s ek hi st j q;have e:i=n:=by omega
   subst e;refine nK F.entry_set_update_loop ?_;rw [Around.under_plainId F.plain_set_update_loop];unfold Builtin.«set.update.loop»;dsimp only;refine aa (W.done s _ _ st fun h' tk fr=>?_);exact ao (q _ _ (jf _ _ _ j fun o eo=>fr _ _ (fun z=>hS (W.sub _ z)) eo) fun b o nb eb=>fr _ _ (fun z=>nb (.tail _ z)) eb)
 | succ k ih =>
   intro i s ek hi st j q;refine nK F.entry_set_update_loop ?_;rw [Around.under_plainId F.plain_set_update_loop];unfold Builtin.«set.update.loop»;dsimp only;refine aa (W.item i s _ _ (by omega) st fun v h' tk pv st' fr=>?_);dsimp only;have j':=jf i s.heap h' j fun o eo=>fr _ _ (fun z=>hS (W.sub _ z)) eo;refine aa (bD (step i v { s with heap:=h',toks:=tk } _ _ (by omega) pv j' fun h'' tk' b j'' sb=>?_));refine ao ⟨iP _ (by decide +kernel),ih (i+1) _ (by omega) (by omega) (W.frame _ _ _ st' fun b hb o eo=>?_) j'' fun h3 tk3 j3 fr3=>?_⟩
   . exact (sb.2 b (fun z=>hS (z ▸ hb))).trans eo
   . exact q h3 tk3 j3 fun b o nb eb=>fr3 b o nb ((sb.2 b (fun z=>nb (z ▸ .head _))).trans (fr b o (fun z=>nb (.tail _ z)) eb))
theorem aea {prog:Program} {w:World} {A:Around} {E:Value->Shared->Prop} {s:Shared} {l a:Addr} {items:Array Value} {Q:Value->Shared->Prop} (hd:A.handled=none) (hl:s.heap.IsList l items) (na:a≠l) (S0:SetIs s.heap a #[] 0 (SetTable.fresh 0 0 (LED w)))
   (J:Nat->Heap->Prop) (j0:∀ h,SetIs h a #[] 0 (SetTable.fresh 0 0 (LED w))->J 0 h)
   (step:∀ i v (s:Shared) Q E,items[i]?=some v->J i s.heap->(∀ h' tk b,J (i+1) h'->Heap.SameBut a s.heap h'->Q b { s with heap:=h',toks:=tk })->wpAny (model prog w) A.in1.in1 (setAdd a v) Q E s)
   (jf:∀ i h h',J i h->(∀ o,h.get? a=some o->h'.get? a=some o)->J i h')
   (q:∀ h' tk,J items.size h'->(∀ b o,b≠a->s.heap.get? b=some o->h'.get? b=some o)->Q .none { s with heap:=h',toks:=tk }) :
   wpAny (model prog w) A (call (.builtin "set.__init__") [.ref a,.ref l]) Q E s:=by
 obtain ⟨o,h1,h2,h3⟩:=id S0;have ty:s.TypeIs (.ref a) "set":=⟨o,h1,h2.1⟩;refine fw (gV kc.plain F.entry_set_init (check_set_init_1 ty ?_));unfold Builtin.«set.__init__»;refine aa (show wpAny (model prog w) A.in1 (pure ()) _ _ _ from ao ?_);dsimp only;refine aa (YU ty fun nm=>?_);refine aa (show wpAny (model prog w) A.in1 (pure ()) _ _ _ from ao ?_);refine aa (show wpAny (model prog w) A.in1 (pure a) _ _ _ from ao ?_);refine aa ?_;unfold setUsed;refine aa (fB h1 h3 rfl ?_);refine ao ?_;rw [aj (show ¬ ((#[],0,SetTable.fresh 0 0 (LED w)).snd.snd.fill != 0)=true from fun z=>aP z)];refine aa ?_;unfold Builtin.Frozenset.updateFrom;refine aa (cHa hl ?_);rw [aj (by decide)];refine aa (jv hl.typeIs ?_);rw [aj (by decide)];refine aa (iV hl ?_);have lt:=aw h1;have llt:l<s.heap.objs.size:=by
   obtain ⟨o',e',_⟩:=id hl;exact aw e'
 refine aa (wpAny_runValue (Zc (A:=A.in1) (Walks.list (A:=A.in1.in1) hd s.heap.objs.size l (aE llt) items) (S:=a) (fun z=>?_) J (fun i v s' Q' E' _ pv j k=>step i v s' Q' E' pv j k) jf items.size 0 _ (by omega) (bi _) ⟨⟨_,aJ _ rfl,rfl,rfl⟩,hl.push _⟩ (j0 _ ⟨o,ap _ h1,h2,h3⟩) fun h' tk jn fr=>?_))
 . rcases az.mp z with e|e
   . exact aE lt e
   . exact na (aI.mp e)
 . refine ao ?_;refine ao ?_;refine q h' tk jn fun b o nb eb=>fr b o (fun z=>?_) (ap _ eb);rcases az.mp z with e|e
   . exact nb e
   . exact aE (aw eb) (aI.mp e)
theorem Xm {prog:Program} {w:World} {A:Around} {E:Value->Shared->Prop} {s:Shared} {l:Addr} {Q:Value->Shared->Prop}
   (k:∀ h',SetIs h' s.heap.objs.size #[] 0 (SetTable.fresh 0 0 (LED w))->(∀ b o,s.heap.get? b=some o->h'.get? b=some o)->wpAny (model prog w) A.in1 (call (.builtin "set.__init__") [.ref s.heap.objs.size,.ref l]) (fun v s'=>v=.none/\Q (.ref s.heap.objs.size) s') E { s with heap:=h' }) :
   wpAny (model prog w) A (call (.type "set") [.ref l]) Q E s:=by
 refine fw (codeAny_of_tree ?_);show wpAny (model prog w) _ (again (Code.builtin "type.__call__" { pos:=[.type "set",.ref l] })) _ _ _;refine ao ⟨iP _ (by decide +kernel),nK entry_typeCall ?_⟩;rw [Around.under_plain (weight_type_call_type ..) rfl];unfold Builtin.«type.__call__»;dsimp only;rw [aj (by decide)];rw [aj (by rw [F.called_set.canCreate];decide),F.typeCall_set_1];refine aa (ao ?_);rw [F.mro_set];refine aa (ao ?_);rw [aj (by decide),F.called_set.made];refine aa (ao ?_);dsimp only;refine aa (ao ?_);refine aa (bD (fw (bWa _ (Q₁:=fun obj s₁=>wpAny (model prog w) A.in1 _ _ _ s₁) ?_)));have h0:=aJ (h:=s.heap) (o:={ cls:=.type "set",data:=.set #[] 0 (SetTable.fresh 0 0 (LED w)) }) rfl;have ty:Shared.TypeIs { s with heap:=s.heap.push { cls:=.type "set",data:=.set #[] 0 (SetTable.fresh 0 0 (LED w)) } } (.ref s.heap.objs.size) "set":=⟨_,h0,rfl⟩;refine aa (dQ ty sub_set_self ?_);rw [aj (by decide)];refine aa (bD (wpAny_callSpecial?_slotG ty ⟨kc.lookup,kc.bind,kc.check⟩ (bg (k _ ⟨_,h0,⟨rfl,rfl,rfl⟩,rfl⟩ fun b o eb=>ap _ eb) (fun v s' hq=>?_) fun _ _ z=>z)));obtain ⟨rfl,qq⟩:=hq;dsimp only;rw [aj (by decide)];exact ao qq
theorem sn1:typeLookup (.type "set_iterator") (Str.ofString "__next__")=pure (some (.builtin "set_iterator.__next__")):=by kernel_rfl
theorem sn4:entryFor table "set_iterator.__next__"=some Builtin.«set_iterator.__next__»:=entryFor_of_tree (by kernel_rfl)
theorem sn5:entryFor table "set.__iter__"=some Builtin.«frozenset.__iter__»:=entryFor_alias (id':="frozenset.__iter__") (by kernel_rfl) (by kernel_rfl) (by kernel_rfl) (by kernel_rfl)
theorem sn6 (a:Value):argsOk "set_iterator.__next__" { pos:=[a] }:=by kernel_rfl
theorem GL:Slot "set_iterator" (Str.ofString "__next__") "set_iterator.__next__":=Slot.of (owner:="set_iterator") (n:="__next__") sn1 (by kernel_rfl) (by kernel_rfl) (by kernel_rfl) (.inl (by kernel_rfl)) (by kernel_rfl) (by decide +kernel)
theorem TJ:Slot "set_iterator" (Str.ofString "__iter__") "set_iterator.__iter__":=Slot.of (owner:="set_iterator") (n:="__iter__") (by kernel_rfl) (by kernel_rfl) (by kernel_rfl) (by kernel_rfl) (.inl (by kernel_rfl)) (by kernel_rfl) (by decide +kernel)
theorem sn7:entryFor table "set_iterator.__iter__"=some Builtin.«dict_keyiterator.__iter__»:=entryFor_alias (id':="dict_keyiterator.__iter__") (by kernel_rfl) (by kernel_rfl) (by kernel_rfl) (by kernel_rfl)
theorem sn8 (a:Value):argsOk "set_iterator.__iter__" { pos:=[a] }:=by kernel_rfl
theorem sn9:splitId "set.__len__"=some ("set","__len__"):=by kernel_rfl
def IsSetIter (h:Heap) (it a:Addr) (slot i n ep:Nat):Prop:=∃ o,h.get? it=some o/\o.cls=.type "set_iterator"/\o.data=.fields #[.int slot 0,.int i 0,.ref a,.int n 0,.int ep 0]
theorem IsSetIter.typeIs {s:Shared} {it a:Addr} {slot i n ep:Nat} (h:IsSetIter s.heap it a slot i n ep):s.TypeIs (.ref it) "set_iterator":=let ⟨o,h1,h2,_⟩:=h;⟨o,h1,h2⟩
theorem SetIs.typeIs {s:Shared} {a:Addr} {es:Array (Int × Value)} {ep:Nat} {t:SetTable} (h:SetIs s.heap a es ep t):s.TypeIs (.ref a) "set":=let ⟨o,h1,h2,_⟩:=h;⟨o,h1,h2.1⟩
theorem aVa {prog:Program} {w:World} {A:Around} {E:Value->Shared->Prop} {s:Shared} {a:Addr} {es:Array (Int × Value)} {ep:Nat} {t:SetTable} {Q:Value->Shared->Prop} (S:SetIs s.heap a es ep t) (fit:t.fits es.size=true) (pl:t.plain=true)
   (q:Q (.ref s.heap.objs.size) { s with heap:=s.heap.push { cls:=.type "set_iterator",data:=.fields #[.int 0 0,.int 0 0,.ref a,.int es.size 0,.int ep 0] } }):wpAny (model prog w) A (pyIter (.ref a)) Q E s:=by
 obtain ⟨o,h1,h2,h3⟩:=id S;refine lZ S.typeIs F.slot_set_iter (bU F.slot_set_iter S.typeIs sn5 ?_ (F.args_set_iter_1 _));unfold Builtin.«frozenset.__iter__»;refine aa (show wpAny (model prog w) _ (pure a) _ _ _ from ao ?_);refine aa ?_;unfold Builtin.Frozenset.sizeOf;refine aa (kz h1 h3 fit (ao ?_));refine aa ?_;unfold setDrawn;refine aa (fB h1 h3 fit ?_);dsimp only;refine aa (Al ?_);refine ao ?_;split
 . rename_i h
   have h':(!w.params.followText "set-order" && (!t.plain && decide (es.size > 1)))=true:=h;rw [pl] at h';simp at h'
 . refine aa (ao ?_);refine aa (wpAny_setEpoch_of h1 h3 fit ?_);refine aa ?_;unfold newFields;refine bX ?_ (by size_fits);exact ao ⟨_,rfl,"set_iterator",_,⟨_,aJ _ rfl,rfl⟩,sn1,q⟩
def iW (w:World) (a:Addr) (ep:Nat) (es:Array (Int × Value)):Array (Int × Value):=if w.params.followText "set-order"=true then pickOrder (w.params.setOrder a ep) es else es
theorem QA {prog:Program} {w:World} {A:Around} {E:Value->Shared->Prop} {s:Shared} {a:Addr} {es:Array (Int × Value)} {ep slot i:Nat} {t:SetTable} {Q:Option (Value × Nat)->Shared->Prop} (S:SetIs s.heap a es ep t) (fit:t.fits es.size=true) (pl:t.plain=true) (led:t.led=LED w) (hs:w.params.followText "set-order"=false->SetTable.below t.place slot=i)
   (q:∀ r,((iW w a ep es)[i]?=none->r=none)->(∀ x,(iW w a ep es)[i]?=some x->∃ slot',r=some (x.2,slot')/\(w.params.followText "set-order"=false->t.place[i]?=some (slot' - 1)/\0<slot'))->Q r s):wpAny (model prog w) A (setNext a slot i ep) Q E s:=by
 obtain ⟨o,h1,h2,h3⟩:=id S;unfold setNext;refine aa (fB h1 h3 fit ?_);dsimp only;refine aa (Al ?_);by_cases bt:w.params.followText "set-order"=true
 . have eo:iW w a ep es=pickOrder (w.params.setOrder a ep) es:=by unfold iW;rw [am bt]
   rw [am bt,aj (by simp)];refine aa ?_;unfold setWalk;refine aa (fB h1 h3 fit ?_);dsimp only;refine aa (Al ?_);rw [am bt];refine aa (wpAny_askSetting ?_);refine ao (ao (q _ (fun z=>?_) fun x z=>⟨slot,?_,fun f=>?_⟩))
   . rw [eo] at z;show Option.map _ (pickOrder (w.params.setOrder a ep) es)[i]?=none;rw [z]
     rfl
   . rw [eo] at z;show Option.map _ (pickOrder (w.params.setOrder a ep) es)[i]?=_;rw [z]
     rfl
   . rw [bt] at f;cases f
 . have bf:w.params.followText "set-order"=false:=nF.mpr bt;have eo:iW w a ep es=es:=by unfold iW;rw [aj bt]
   rw [aj bt];have ld:t.led=true:=by rw [led];unfold LED;rw [bf];rfl
   have ps:t.place.size=es.size:=by
     unfold SetTable.fits at fit;simp at fit;exact fit.1
   split
   . rename_i h
     have h':(!t.plain && decide (es.size > 1))=true:=h;rw [pl] at h';simp at h'
   . refine aa (show wpAny (model prog w) A (if (!t.led && !es.isEmpty)=true then unsupported "set:maker-not-led" else pure ()) _ _ _ from ?_);rw [aj (by rw [ld];simp)];refine ao ?_;rw [hs bf];refine ao (q _ (fun z=>?_) fun x z=>?_)
     . rw [eo] at z;rw [z]
     . rw [eo] at z;have il:i<t.place.size:=by
         rw [ps];exact (eL.mp z).1
       refine ⟨t.place[i]+1,?_,fun _=>⟨?_,Nat.succ_pos _⟩⟩
       . rw [z,ce il]
       . rw [ce il]
         rfl
theorem Wd {prog:Program} {w:World} {A:Around} {E:Value->Shared->Prop} {s:Shared} {it a:Addr} {es:Array (Int × Value)} {ep slot i:Nat} {t:SetTable} {Q:Option Value->Shared->Prop} (S:SetIs s.heap a es ep t) (fit:t.fits es.size=true) (pl:t.plain=true) (led:t.led=LED w) (I:IsSetIter s.heap it a slot i es.size ep)
   {x:Int × Value} (hx:(iW w a ep es)[i]?=some x) (hs:w.params.followText "set-order"=false->SetTable.below t.place slot=i)
   (q:∀ h' slot',IsSetIter h' it a slot' (i+1) es.size ep->(w.params.followText "set-order"=false->t.place[i]?=some (slot' - 1)/\0<slot')->Heap.SameBut it s.heap h'->Q (some x.2) { s with heap:=h' }):wpAny (model prog w) A (pyNext (.ref it)) Q E s:=by
 obtain ⟨o,h1,h2,h3⟩:=id S;obtain ⟨oi,i1,i2,i3⟩:=id I;unfold pyNext;refine aa (gQ (wpAny_callSpecial?_slot (name:=Str.ofString "__next__") I.typeIs GL (bU GL I.typeIs sn4 ?_ (sn6 _))));unfold Builtin.«set_iterator.__next__»;refine aa (show wpAny (model prog w) _ (pure (Value.ref it,[])) _ _ _ from ao ?_);refine aa (kh i1 i3 ?_);dsimp only;refine aa (kz h1 h3 fit ?_);rw [aj (by simp)];refine aa ?_;rw [bF,bF,bF];refine QA S fit pl led hs fun r r0 r1=>?_;obtain ⟨slot',rfl,hsl⟩:=r1 x hx;dsimp only;refine aa (c8 i1 i3 (by simp) ?_);have u1:=bI (fun o=>Obj.mapFields (fun x=>x.setIfInBounds 0 (rawInt ↑slot')) o) i1 (cM (bK i3 _));have u3:=bK i3 (fun x=>x.setIfInBounds 0 (rawInt ↑slot'));refine aa (c8 u1 u3 (by simp) ?_);have v1:=bI (fun o=>Obj.mapFields (fun x=>x.setIfInBounds 1 (rawInt (↑i+1))) o) u1 (cM (bK u3 _));refine ao ⟨_,rfl,ao (q _ slot' ⟨_,v1,?_,?_⟩ hsl ?_)⟩
 . exact (gG ..).trans ((gG ..).trans i2)
 . rw [bK u3];simp [rawInt]
 . exact (dY ..).trans (dY ..)
theorem awa {prog:Program} {w:World} {A:Around} {E:Value->Shared->Prop} {s:Shared} {it a:Addr} {es:Array (Int × Value)} {ep slot i:Nat} {t:SetTable} {Q:Option Value->Shared->Prop} (hh:A.handled=none) (S:SetIs s.heap a es ep t) (fit:t.fits es.size=true) (pl:t.plain=true) (led:t.led=LED w) (I:IsSetIter s.heap it a slot i es.size ep)
   (hx:(iW w a ep es)[i]?=none) (hs:w.params.followText "set-order"=false->SetTable.below t.place slot=i)
   (q:∀ h',Heap.ExtBut it s.heap h'->Q none { s with heap:=h' }):wpAny (model prog w) A (pyNext (.ref it)) Q E s:=by
 obtain ⟨o,h1,h2,h3⟩:=id S;obtain ⟨oi,i1,i2,i3⟩:=id I;unfold pyNext;refine aa (gQ (wpAny_callSpecial?_slot (name:=Str.ofString "__next__") I.typeIs GL (bU GL I.typeIs sn4 ?_ (sn6 _))));unfold Builtin.«set_iterator.__next__»;refine aa (show wpAny (model prog w) _ (pure (Value.ref it,[])) _ _ _ from ao ?_);refine aa (kh i1 i3 ?_);dsimp only;refine aa (kz h1 h3 fit ?_);rw [aj (by simp)];refine aa ?_;rw [bF,bF,bF];refine QA S fit pl led hs fun r r0 r1=>?_;rw [r0 hx];dsimp only;refine aa (c8 i1 i3 (by simp) ?_);refine aa ?_;simp only [newExc,newTuple];refine aa (bX ?_ (by size_fits));refine aa (m:=firstArgMember _ _) (wpAny_of_eq (a:=Value.none) (by first|rfl|(simp only [firstArgMember];rfl)) ?_);refine bX ?_ (by size_fits);simp only [raiseNew];refine aa (wpAny_handled ?_);rw [show A.in1.handled=none from hh];refine aa (ao (wpAny_throw ?_));refine aa (dQ (T:="StopIteration") (b:=true) ⟨_,aJ _ rfl,rfl⟩ isSubtype_stop ?_);exact ao (q _ (((dY ..).extBut.push _).push _))
theorem Xs {prog:Program} {w:World} {A:Around} {E:Value->Shared->Prop} {s:Shared} {it a:Addr} {slot i n ep:Nat} {Q:Value->Shared->Prop} (I:IsSetIter s.heap it a slot i n ep) (q:Q (.ref it) s):wpAny (model prog w) A (pyIter (.ref it)) Q E s:=by
 refine lZ I.typeIs TJ (bU TJ I.typeIs sn7 ?_ (sn8 _));unfold Builtin.«dict_keyiterator.__iter__»;refine aa (show wpAny (model prog w) _ (pure (Value.ref it,[])) _ _ _ from ao ?_);exact ao ⟨_,rfl,"set_iterator",_,I.typeIs,sn1,q⟩
theorem boa {prog:Program} {w:World} {A:Around} {E:Value->Shared->Prop} {s:Shared} {r:Addr} {Q:Bool->Shared->Prop} (ty:s.TypeIs (.ref r) "set") (q:Q false s):wpAny (model prog w) A (Builtin.List.listLengthHint (.ref r)) Q E s:=by
 unfold Builtin.List.listLengthHint;refine aa (jI ty F.slot_set_len.lookup ?_);dsimp only;rw [sn9];dsimp only;refine aa (dQ ty sub_set_self ?_);rw [aj (by decide)];refine fm (fun _=>?_) fun h=>(h (by kernel_rfl)).elim;refine aa (jv ty ?_);exact ao q
def eta (w:World) (it a:Addr) (es:Array (Int × Value)) (ep:Nat) (t:SetTable) (i:Nat) (h:Heap):Prop:=∃ slot,IsSetIter h it a slot i es.size ep/\SetIs h a es ep t/\(w.params.followText "set-order"=false->SetTable.below t.place slot=i)
theorem We {prog:Program} {w:World} {A:Around} {a I:Addr} {es:Array (Int × Value)} {ep:Nat} {t:SetTable} (hh:A.handled=none) (hne:a≠I) (fit:t.fits es.size=true) (pl:t.plain=true) (led:t.led=LED w) (os:(iW w a ep es).size=es.size)
   (hb:∀ i slot',t.place[i]?=some (slot' - 1)->0<slot'->SetTable.below t.place slot'=i+1) :
   Walks prog w A I [I,a] [I] es.size (fun i v=>∃ e,(iW w a ep es)[i]?=some e/\v=e.2) (eta w I a es ep t) where
 sub:=fun b hb=>by simp at hb;simp [hb]
 frame:=fun i h h' st hk=>by
   obtain ⟨slot,⟨o,h1,h2,h3⟩,⟨o',g1,g2,g3⟩,hs⟩:=st;exact ⟨slot,⟨o,hk I (by simp) o h1,h2,h3⟩,⟨o',hk a (by simp) o' g1,g2,g3⟩,hs⟩
 item:=fun i s Q E hi st hQ=>by
   obtain ⟨slot,I0,S,hs⟩:=st;have il:i<(iW w a ep es).size:=by rw [os];exact hi
   refine Wd S fit pl led I0 (ce il) hs fun h' slot' I' hsl sb=>hQ _ h' s.toks ⟨_,ce il,rfl⟩ ⟨slot',I',?_,fun bf=>hb i slot' (hsl bf).1 (hsl bf).2⟩ fun b o hb e=>?_
   . obtain ⟨o',g1,g2,g3⟩:=S;exact ⟨o',(sb.2 a hne).trans g1,g2,g3⟩
   . exact (sb.2 b (fun z=>hb (by simp [z]))).trans e
 done:=fun s Q E st hQ=>by
   obtain ⟨slot,I0,S,hs⟩:=st;exact awa hh S fit pl led I0 (gY (by rw [os];exact aA _)) hs fun h' he'=>hQ h' s.toks fun b o hb e=>he' b o (fun h=>hb (by simp [h])) e
 self:=fun _ _ _ _ st hQ=>by
   obtain ⟨slot,I0,_⟩:=st;exact Xs I0 hQ
theorem SetIs.lt {h:Heap} {a:Addr} {es:Array (Int × Value)} {ep:Nat} {t:SetTable} (S:SetIs h a es ep t):a<h.objs.size:=let ⟨_,h1,_⟩:=S;aw h1
theorem Tq {prog:Program} {w:World} {a:Addr} {es:Array (Int × Value)} {ep:Nat} {t:SetTable} (fit:t.fits es.size=true) (pl:t.plain=true) (led:t.led=LED w) (os:(iW w a ep es).size=es.size)
   (hb:∀ i slot',t.place[i]?=some (slot' - 1)->0<slot'->SetTable.below t.place slot'=i+1) (b0:SetTable.below t.place 0=0) :
   KdlSrc prog w "set" a a es.size (fun i v=>∃ e,(iW w a ep es)[i]?=some e/\v=e.2) (fun h=>SetIs h a es ep t) where
 type:=fun _ hm=>hm.typeIs
 there:=fun _ hm=>⟨hm.lt,hm.lt⟩
 keep:=fun _ _ hm hk=>let ⟨o,h1,h2,h3⟩:=hm;⟨o,hk a (.inl rfl) o h1,h2,h3⟩
 notList:=by decide
 notTuple:=by decide
 hint:=fun _ _ _ _ hm hq=>boa hm.typeIs hq
 iter:=fun _ _ hh hm=>⟨_,_,(fun _ _ hq=>aVa hm fit pl hq),We hh (aE hm.lt) fit pl led os hb,⟨0,⟨_,aJ _ rfl,rfl,rfl⟩,let ⟨o,h1,h2,h3⟩:=hm;⟨o,ap _ h1,h2,h3⟩,fun _=>b0⟩⟩
def tb1 (led:Bool):SetTable:={ mask:=7,place:=#[0],dummies:=#[],finger:=0,led:=led,moves:=0,plain:=true }
def tb2 (led:Bool) (x:Nat):SetTable:={ mask:=7,place:=#[0,x],dummies:=#[],finger:=0,led:=led,moves:=0,plain:=true }
theorem eRa (led:Bool) (tk:Tok):layNew (SetTable.fresh 0 0 led) #[] (hashInt 0) (.int 0 tk)=(#[(0,.int 0 tk)],tb1 led,false,false):=by kernel_rfl
theorem eLa (led:Bool) (tk tk2:Tok) {x:Nat} (h0:1<=x) (h5:x<=5):layNew (tb1 led) #[(0,.int 0 tk)] (hashInt (x:Int)) (.int (x:Int) tk2)=(#[(0,.int 0 tk),((x:Int),.int (x:Int) tk2)],tb2 led x,false,false):=by
 rcases (show x=1\/x=2\/x=3\/x=4\/x=5 by omega) with rfl|rfl|rfl|rfl|rfl <;> kernel_rfl
theorem Ub {α:Type}:∀ (l:List α) (i:Nat) (h:i<l.length),(l[i]::l.eraseIdx i).Perm l
 | a::l,0,_=>iX _
 | a::l,i+1,h=>(List.Perm.swap _ _ _).trans ((Ub l i (Nat.lt_of_succ_lt_succ h)).cons a)
theorem M0 {α:Type} (next:Nat->Nat):∀ (n k:Nat) (left:List α) (out:Array α),left.length=n->(pickOrder.go next n k left out).toList.Perm (out.toList++left)
 | 0,k,left,out,h=>by
   rw [pickOrder.go.eq_1,nZ.mp h,bG]
 | n+1,k,left,out,h=>by
   rw [pickOrder.go.eq_2];have hl:next k % left.length<left.length:=Nat.mod_lt _ (by omega);rw [aD hl];dsimp only;refine (M0 next n (k+1) _ _ (by rw [List.length_eraseIdx,am hl,h];rfl)).trans ?_;rw [Array.toList_push,cq];refine jX _ ?_;exact Ub left _ hl
theorem Jp (w:World) (a:Addr) (ep:Nat) (es:Array (Int × Value)):(iW w a ep es).toList.Perm es.toList:=by
 unfold iW;split
 . have:=M0 (w.params.setOrder a ep) es.size 0 es.toList #[] (by simp)
   simpa [pickOrder] using this
 . exact iX _
theorem dfa:bootBuiltins "set"=some (.type "set"):=by decide +kernel
def W0 (t:TA):TE:=fun σ H Q=>t σ H fun xs H1=>∃ (l:Addr) (x:Nat),xs=[.ref l]/\H1 l=some (.lst [.int 0,.int x])/\x<=5/\∀ p,H1 p=none->Q (.ref p) (upd H1 p (.lst (if x=0 then [.int 0] else [.int 0,.int x])))
def es2 (tk tk2:Tok) (x:Nat):Array (Int × Value):=if x=0 then #[(0,.int 0 tk)] else #[(0,.int 0 tk),((x:Int),.int (x:Int) tk2)]
def tbx (led:Bool) (x:Nat):SetTable:=if x=0 then tb1 led else tb2 led x
theorem WS {prog:Program} {w:World} (tk:Tok):ElemsOf (intKind prog w) [((0:Int),Value.int 0 tk)]:=fun e he=>by
 rw [aI.mp he];exact ⟨⟨0,rfl,rfl⟩,rfl⟩
theorem cha {prog:Program} {w:World} {A:Around} {E:Value->Shared->Prop} {s:Shared} {l:Addr} {x:Nat} {tk tk2:Tok} {Q:Value->Shared->Prop} (hd:A.handled=none) (hl:s.heap.IsList l #[.int 0 tk,.int (x:Int) tk2]) (x5:x<=5)
   (q:∀ h' tk' ep,SetIs h' s.heap.objs.size (es2 tk tk2 x) ep (tbx (LED w) x)->(∀ b o,s.heap.get? b=some o->h'.get? b=some o)->Q (.ref s.heap.objs.size) { s with heap:=h',toks:=tk' }):wpAny (model prog w) A (call (.type "set") [.ref l]) Q E s:=by
 have llt:l<s.heap.objs.size:=by
   obtain ⟨o',e',_⟩:=id hl;exact aw e'
 refine Xm fun h' S0 kp=>?_;have hl':h'.IsList l #[.int 0 tk,.int (x:Int) tk2]:=by
   obtain ⟨o,e,r⟩:=id hl;exact ⟨o,kp _ _ e,r⟩
 refine aea (A:=A.in1) (s:={ s with heap:=h' }) hd hl' (dI llt) S0 (fun i h=>match i with|0=>SetIs h s.heap.objs.size #[] 0 (SetTable.fresh 0 0 (LED w))|1=>SetIs h s.heap.objs.size #[(0,.int 0 tk)] 1 (tb1 (LED w))|_=>∃ ep,SetIs h s.heap.objs.size (es2 tk tk2 x) ep (tbx (LED w) x)) (fun h z=>z) ?_ ?_ fun h'' tk' jn fr=>⟨rfl,?_⟩
 . intro i v s' Q' E' hv j k
   match i,hv,j,k with
   | 0,hv,j,k =>
     obtain rfl:v=.int 0 tk:=(bh hv).symm;exact Tv j rfl (fun e he=>by simp at he) (by decide) rfl (eRa _ _) rfl rfl (by show (1:Nat)<100;decide) fun h1 tk1 S1 sb=>k h1 tk1 true S1 sb
   | 1,hv,j,k =>
     obtain rfl:v=.int (x:Int) tk2:=(bh hv).symm;by_cases x0:x=0
     . subst x0;exact bXa j rfl (WS tk) (by show (1:Nat)<100;decide) (j:=0) rfl fun tk1=>k _ tk1 false ⟨1,j⟩ ⟨rfl,fun _ _=>rfl⟩
     . refine Tv j rfl (WS tk) (by show (1:Nat)<100;decide) ?_ (eLa (LED w) tk tk2 (by omega) x5) rfl rfl (by show (2:Nat)<100;decide) fun h1 tk1 S1 sb=>k h1 tk1 true ⟨2,?_⟩ sb
       . rcases (show x=1\/x=2\/x=3\/x=4\/x=5 by omega) with rfl|rfl|rfl|rfl|rfl <;> rfl
       . unfold es2 tbx;rw [aj x0,aj x0];exact S1
   | i+2,hv,j,k=>simp at hv
 . intro i h h2 j ko
   match i,j with
   | 0,⟨o,a1,a2,a3⟩=>exact ⟨o,ko o a1,a2,a3⟩
   | 1,⟨o,a1,a2,a3⟩=>exact ⟨o,ko o a1,a2,a3⟩
   | i+2,⟨ep,o,a1,a2,a3⟩=>exact ⟨ep,o,ko o a1,a2,a3⟩
 . obtain ⟨ep,S⟩:=(show ∃ ep,SetIs h'' s.heap.objs.size (es2 tk tk2 x) ep (tbx (LED w) x) from jn);exact q h'' tk' ep S fun b o eb=>fr b o (aE (aw eb)) (kp b o eb)
theorem Wq (led:Bool):SetTable.below (tb1 led).place 0=0/\SetTable.below (tb1 led).place 1=1:=by
 constructor <;> kernel_rfl
theorem PZ (led:Bool) {x:Nat} (h0:1<=x) (h5:x<=5):SetTable.below (tb2 led x).place 0=0/\SetTable.below (tb2 led x).place 1=1/\SetTable.below (tb2 led x).place (x+1)=2:=by
 rcases (show x=1\/x=2\/x=3\/x=4\/x=5 by omega) with rfl|rfl|rfl|rfl|rfl <;> exact ⟨by kernel_rfl,by kernel_rfl,by kernel_rfl⟩
theorem b6a {prog:Program} {w:World} {a:Addr} {x:Nat} {tk tk2:Tok} {ep:Nat} (x5:x<=5) :
   KdlSrc prog w "set" a a (es2 tk tk2 x).size (fun i v=>∃ e,(iW w a ep (es2 tk tk2 x))[i]?=some e/\v=e.2) (fun h=>SetIs h a (es2 tk tk2 x) ep (tbx (LED w) x)):=by
 have os:(iW w a ep (es2 tk tk2 x)).size=(es2 tk tk2 x).size:=by
   have:=(Jp w a ep (es2 tk tk2 x)).length_eq
   simpa using this
 by_cases x0:x=0
 . refine Tq ?_ ?_ ?_ os ?_ ?_
   . unfold es2 tbx;rw [am x0,am x0];rfl
   . unfold tbx;rw [am x0];rfl
   . unfold tbx;rw [am x0];rfl
   . intro i slot' hp hs;unfold tbx at hp ⊢;rw [am x0] at hp ⊢
     match i,hp with
     | 0,hp =>
       have:0=slot' - 1:=bh hp;rw [show slot'=1 by omega];exact (Wq _).2
     | i+1,hp=>simp [tb1] at hp
   . unfold tbx;rw [am x0];exact (Wq _).1
 . refine Tq ?_ ?_ ?_ os ?_ ?_
   . unfold es2 tbx;rw [aj x0,aj x0];rfl
   . unfold tbx;rw [aj x0];rfl
   . unfold tbx;rw [aj x0];rfl
   . intro i slot' hp hs;unfold tbx at hp ⊢;rw [aj x0] at hp ⊢
     match i,hp with
     | 0,hp =>
       have:0=slot' - 1:=bh hp;rw [show slot'=1 by omega];exact (PZ _ (by omega) x5).2.1
     | 1,hp =>
       have:x=slot' - 1:=bh hp;rw [show slot'=x+1 by omega];exact (PZ _ (by omega) x5).2.2
     | i+2,hp=>simp [tb2] at hp
   . unfold tbx;rw [aj x0];exact (PZ _ (by omega) x5).1
def ns2 (x:Nat):List Int:=if x=0 then [0] else [0,(x:Int)]
theorem cGa (tk tk2:Tok) (x:Nat):IntsAre ((es2 tk tk2 x).toList.map (·.2)) (ns2 x):=by
 unfold es2 ns2;split
 . exact .cons _ _ .nil
 . exact .cons _ _ (.cons _ _ .nil)
theorem VZ:∀ {l l':List Value} {ns:List Int},l'.Perm l->IntsAre l ns->∃ ns',ns'.Perm ns/\IntsAre l' ns':=by
 intro l l' ns hp
 induction hp generalizing ns with
 | nil=>intro h;exact ⟨ns,iX _,h⟩
 | cons v _ ih =>
   intro h;cases h with
   | cons n t hr =>
     obtain ⟨ns',p1,p2⟩:=ih hr;exact ⟨n::ns',p1.cons n,.cons n t p2⟩
 | swap a b l =>
   intro h;cases h with
   | cons n t hr =>
     cases hr with
     | cons n2 t2 hr2=>exact ⟨n2::n::_,List.Perm.swap _ _ _,.cons n2 t2 (.cons n t hr2)⟩
 | trans _ _ ih1 ih2 =>
   intro h;obtain ⟨n1,a1,a2⟩:=ih2 h;obtain ⟨n2,b1,b2⟩:=ih1 a2;exact ⟨n2,b1.trans a1,b2⟩
theorem VD {x:Nat} {ns:List Int} (hp:ns.Perm (ns2 x)) (hs:ns.Pairwise (·<=·)):ns=ns2 x:=by
 unfold ns2 at hp ⊢;by_cases x0:x=0
 . rw [am x0] at hp ⊢;exact List.perm_singleton.mp hp
 . rw [aj x0] at hp ⊢;have hl:=hp.length_eq
   match ns,hl with
   | [p,q],_ =>
     have m1:p∈[0,(x:Int)]:=hp.mem_iff.mp (.head _);have m2:q∈[0,(x:Int)]:=hp.mem_iff.mp (.tail _ (.head _));have m3:(x:Int)∈[p,q]:=hp.mem_iff.mpr (.tail _ (.head _));have m4:(0:Int)∈[p,q]:=hp.mem_iff.mpr (.head _);have le:p<=q:=(lr.mp hs).1 q (.head _);simp at m1 m2 m3 m4;have:p=0/\q=(x:Int):=(by omega);rw [this.1,this.2]
theorem Pg {X:Cx} {e:Expr} {t:TA} {p p2 pos pos2:Pos} (hc:X.calm=true) (hg:Gl X "sorted") (hm:X.mg "sorted"=none) (hg2:Gl X "set") (hm2:X.mg "set"=none) (ha:PA X [e] t) (he:starEach [e] X.env=(false,eval e X.env)::starEach [] X.env:=by rfl) :
   PE X (.Call (.Name "sorted" p) [.Call (.Name "set" p2) [e] [] pos2] [] pos) (W0 t):=by
 intro pins s σ H Q I h;refine dZ (pS I hg hm Fo ?_ (by decide) (by decide));refine jH ?_ rfl rfl;show wpAny _ _ (spliced ((false,eval (.Call (.Name "set" p2) [e] [] pos2) X.env)::backTo pos (starEach [] X.env))) _ _ s;refine fC ?_;refine dZ (pS I hg2 hm2 dfa ?_ (by decide) (by decide));refine bQ (zf (ha pos2 pins s σ H _ I h) fun us s1 vs H1 I1 r1 q1=>?_) he rfl;obtain ⟨l,x,rfl,hl,x5,q⟩:=q1;obtain ⟨u,rfl,ru⟩:=Ax r1;cases ru;obtain ⟨its,rv,pl,hz⟩:=I1.list (SqL.of (K:=X.K) hl);have hh:X.A.in1.handled=none:=I1.ok.hd hc;obtain ⟨u0,u1,rfl,r0,r2⟩:=VB rv;obtain ⟨tk,rfl⟩:=(show ∃ t,u0=Value.int 0 t from r0);obtain ⟨tk2,rfl⟩:=(show ∃ t,u1=Value.int (x:Int) t from r2);have hA:X.A.handled=none:=hh;refine cha hA pl.isList x5 fun h' tk' ep S kp=>?_;have I2:Inv X pins σ H1 { s1 with heap:=h',toks:=tk' }:=I1.kept (t':=tk') kp;refine fQ ?_;refine mz kind_sorted plain_sorted entry_sorted (args_sorted1 _) ?_;unfold Builtin.«sorted»;refine aa (m:=checkCount "sorted" 1 1 _) (ao ?_);have sz2:(es2 tk tk2 x).size<=2:=by
   unfold es2;split
   . exact (by decide:(1:Nat)<=2)
   . exact aA _
 refine aa (kdu_collect (A:=X.A.in1) (b6a x5) hh S (bP sz2 (bn (by decide))) fun h2 tk3 acc hk' hacc=>?_);have os:(iW X.w s1.heap.objs.size ep (es2 tk tk2 x)).size=(es2 tk tk2 x).size:=by
   have:=(Jp X.w s1.heap.objs.size ep (es2 tk tk2 x)).length_eq
   simpa using this
 have ea:acc.toList=(iW X.w s1.heap.objs.size ep (es2 tk tk2 x)).toList.map (·.2):=by
   refine eO fun j=>?_;by_cases hj:j<acc.size
   . have e1:acc[j]?=some acc[j]:=ce hj;obtain ⟨e,h3,h4⟩:=hacc.2 j acc[j] e1;rw [dL,e1,aU,dL,h3,h4]
     rfl
   . rw [dL,gY (by omega),aU,dL,gY (by rw [os,<- hacc.1];omega)]
     rfl
 obtain ⟨ns,pA,hI⟩:=VZ (((Jp X.w s1.heap.objs.size ep (es2 tk tk2 x)).map (·.2))) (cGa tk tk2 x);rw [<- ea] at hI;have al:acc.toList.length<=2:=by rw [iU,hacc.1];exact sz2
 refine aa (wpAny_newList ?_ (bP al (bn (by decide))));have hoL:(h2.push (seqObj "list" acc.toList.toArray 0)).get? h2.objs.size=some (seqObj "list" acc.toList.toArray 0):=aJ _ rfl;have I3:Inv X pins σ H1 { s1 with heap:=h2,toks:=tk3 }:=I2.kept (t':=tk3) hk';refine aa (bD (bU slot_list_sort ⟨_,hoL,rfl⟩ entry_list_sort (list_sort_tree hoL hI (by omega) fun out ns' a1 a2 a3=>⟨_,rfl,?_⟩) (args_list_sort _)));refine ao ⟨_,rfl,?_⟩;have en:ns'=ns2 x:=VD (a2.trans pA) a3;have ev:(if x=0 then [V.int 0] else [V.int 0,V.int (x:Int)])=ns'.map V.int:=by
   rw [en];unfold ns2;split <;> rfl
 obtain ⟨n,hn⟩:∃ n,(sortedHeap (h2.push (seqObj "list" acc.toList.toArray 0)) h2.objs.size acc.toList out).get? h2.objs.size=some (seqObj "list" out n):=sortedHeap_at hoL;have qf:=q _ (I3.hok.fresh (aA _));rw [ev] at qf;refine ⟨.ref h2.objs.size,_,I3.laid (a:=h2.objs.size) (o:=.lst (ns'.map V.int)) (t':=tk3) (fun b u e=>?_) (aA _) ⟨?_,out.toList,n,LH a1,?_⟩,rfl,qf⟩
 . rw [sortedHeap_old (aE (aw e)) (aM (aw e) (by rw [cm];exact dE _))];exact ap _ e
 . rw [ak,en];unfold ns2;split
   . exact bn (by decide)
   . exact bn (by show (2:Nat)<=100000;decide)
 . simpa [seqObj] using hn
end L2
namespace Pb
open L2 PySem PySem.W NumText
theorem lO {H H':Hp} {qs:List Addr} {ss:List Stp} {q:Addr} {st:Stp} (e:H' q=some (.tup (vSt st))) (s:Same H H') (h:StepsAt H qs ss):StepsAt H' (qs++[q]) (ss++[st]):=IJ (R:=fun q s=>H' q=some (.tup (vSt s))) e (h.same s)
theorem Tj {H:Hp}:∀ {qs qs':List Addr} {ss ss':List Stp},StepsAt H qs ss->StepsAt H qs' ss'->StepsAt H (qs++qs') (ss++ss')
 | _,_,_,_,.nil,h'=>h'
 | _,_,_,_,.cons e h,h'=>.cons e (Tj h h')
theorem Q2 {H:Hp}:∀ (n:Nat) {qs:List Addr} {ss:List Stp},StepsAt H qs ss->StepsAt H (qs.take n) (ss.take n)
 | 0,_,_,_=>by rw [cR,cR];exact .nil
 | _+1,_,_,.nil=>.nil
 | n+1,_,_,.cons e h=>.cons e (Q2 n h)
theorem O0 {H:Hp}:∀ (n:Nat) {qs:List Addr} {ss:List Stp},StepsAt H qs ss->StepsAt H (qs.drop n) (ss.drop n)
 | 0,_,_,h=>h
 | _+1,_,_,.nil=>.nil
 | n+1,_,_,.cons e h=>O0 n h
def StsAll (H:Hp) (as:List Addr):Prop:=∀ a∈as,∃ (qs:List Addr) (ss:List Stp),H a=some (.lst (qs.map V.ref))/\StepsAt H qs ss/\ss.length<=60
theorem StsAll.same {H H':Hp} {as:List Addr} (e:Same H H') (h:StsAll H as):StsAll H' as:=fun a ha=>let ⟨qs,ss,h1,h2,h3⟩:=h a ha;⟨qs,ss,e _ _ h1,h2.same e,h3⟩
theorem StsAll.snoc {H:Hp} {as:List Addr} {a:Addr} {qs:List Addr} {ss:List Stp} (h:StsAll H as) (e:H a=some (.lst (qs.map V.ref))) (hs:StepsAt H qs ss) (hl:ss.length<=60):StsAll H (as++[a]):=fun b hb=>by
 rcases aY.mp hb with z|z
 . exact h b z
 . rw [aI.mp z];exact ⟨qs,ss,e,hs,hl⟩
def TupAll (H:Hp) (as:List Addr):Prop:=∀ a∈as,∃ ws:List Int,H a=some (.tup (ws.map V.int))/\ws.length<=60
theorem TupAll.same {H H':Hp} {as:List Addr} (e:Same H H') (h:TupAll H as):TupAll H' as:=fun a ha=>let ⟨ws,h1,h2⟩:=h a ha;⟨ws,e _ _ h1,h2⟩
theorem TupAll.snoc {H H':Hp} {as:List Addr} {a:Addr} {ws:List Int} (s:Same H H') (h:TupAll H as) (e:H' a=some (.tup (ws.map V.int))) (hl:ws.length<=60):TupAll H' (as++[a]):=fun b hb=>by
 rcases aY.mp hb with z|z
 . exact h.same s b z
 . rw [aI.mp z];exact ⟨ws,e,hl⟩
theorem TupAll.put {H:Hp} {as:List Addr} {l:Addr} {o:HO} {xs:List V} (h:TupAll H as) (hl:H l=some (.lst xs)):TupAll (upd H l o) as:=fun a ha=>by
 obtain ⟨ws,h1,h2⟩:=h a ha;exact ⟨ws,by rw [aR (lA h1 hl (by intro z;cases z))];exact h1,h2⟩
def dga:Key->Int
 | .inl i=>i
 | .inr _=>0
theorem wq {H:Hp} {a b:Addr} {qs qs':List Addr} {ss ss':List Stp} {Q:VK} (ha:H a=some (.lst (qs.map V.ref))) (hb:H b=some (.lst (qs'.map V.ref))) (L:StepsAt H qs ss) (L':StepsAt H qs' ss') (hl:ss.length+ss'.length<=1000)
   (q:∀ p H',Same H H'->H p=none->H' p=some (.lst ((qs++qs').map V.ref))->StepsAt H' (qs++qs') (ss++ss')->Q (.ref p) H'):rCat (.ref a) (.ref b) H Q:=by
 have h1:qs.length=ss.length:=Paired.length L;have h2:qs'.length=ss'.length:=Paired.length L';refine ⟨a,b,_,_,rfl,rfl,ha,hb,bn (by rw [ak,ak];omega),fun p np=>?_⟩;have s:=Same.new (HO.lst (qs.map V.ref++qs'.map V.ref)) np;exact q p _ s np (by rw [aq,aK]) ((Tj L L').same s)
theorem My {K:PySem.W.Frag} {H:Hp} {a:Addr} {qs:List Addr} {ss:List Stp} {n:Int} {Q:VK} (n0:0<=n) (ha:H a=some (.lst (qs.map V.ref))) (L:StepsAt H qs ss)
   (q:∀ p H',Same H H'->H p=none->H' p=some (.lst ((qs.take n.toNat).map V.ref))->StepsAt H' (qs.take n.toNat) (ss.take n.toNat)->Q (.ref p) H'):YH K (.ref a) none (some n) H Q:=by
 refine ⟨a,_,rfl,SqL.of ha,fun p np=>?_⟩;rw [Ph _ n0,<- pL];have s:=Same.new (HO.lst ((qs.take n.toNat).map V.ref)) np;exact q p _ s np aq ((Q2 _ L).same s)
theorem Lp {K:PySem.W.Frag} {H:Hp} {a:Addr} {qs:List Addr} {ss:List Stp} {n:Int} {Q:VK} (n0:0<=n) (ha:H a=some (.lst (qs.map V.ref))) (L:StepsAt H qs ss)
   (q:∀ p H',Same H H'->H p=none->H' p=some (.lst ((qs.drop n.toNat).map V.ref))->StepsAt H' (qs.drop n.toNat) (ss.drop n.toNat)->Q (.ref p) H'):YH K (.ref a) (some n) none H Q:=by
 refine ⟨a,_,rfl,SqL.of ha,fun p np=>?_⟩;rw [Rc _ n0,<- pG];have s:=Same.new (HO.lst ((qs.drop n.toNat).map V.ref)) np;exact q p _ s np aq ((O0 _ L).same s)
structure Tld (H:Hp) (lt:Addr) (as:List Addr) (G:Hp):Prop where
 sm:Same H G
 el:G lt=some (.lst (as.map V.ref))
 al:StsAll G as
 ne:∀ b∈as,b≠lt
theorem Tld.up {H G G':Hp} {lt:Addr} {as:List Addr} (t:Tld H lt as G) (s:Same G G'):Tld H lt as G':=⟨t.sm.trans s,s _ _ t.el,t.al.same s,t.ne⟩
theorem Tld.app {H G:Hp} {lt a:Addr} {as qs:List Addr} {ss:List Stp} {Q:VK} (t:Tld H lt as G) (nl:H lt=none) (ea:G a=some (.lst (qs.map V.ref))) (L:StepsAt G qs ss) (hl:ss.length<=60) (na:a≠lt) (h100:as.length<=100) (q:∀ G',Tld H lt (as++[a]) G'->(∀ b o,b≠lt->G b=some o->G' b=some o)->Q .non G'):rAppend (.ref lt) [.ref a] G Q:=by
 have up:∀ {b:Addr} {o:HO},b≠lt->G b=some o->upd G lt (.lst (as.map V.ref++[V.ref a])) b=some o:=fun n e=>by rw [aR n];exact e
 have upS:∀ {qs:List Addr} {ss:List Stp},StepsAt G qs ss->StepsAt (upd G lt (.lst (as.map V.ref++[V.ref a]))) qs ss:=fun h=>Paired.imp' (fun b s e=>up (lA e t.el (by intro z;cases z)) e) h;refine uY t.el (gk (by rw [ak];omega)) (q _ ⟨t.sm.put nl _,by rw [aq,aK];rfl,fun b hb=>?_,fun b hb=>?_⟩ fun b o n e=>up n e)
 . rcases aY.mp hb with z|z
   . obtain ⟨qs',ss',h1,h2,h3⟩:=t.al b z;exact ⟨qs',ss',up (t.ne b z) h1,upS h2,h3⟩
   . rw [aI.mp z];exact ⟨qs,ss,up na ea,upS L,hl⟩
 . rcases aY.mp hb with z|z
   . exact t.ne b z
   . rw [aI.mp z];exact na
end Pb
set_option maxHeartbeats 4000000
namespace Pk
open PySem L2 Pb
seal L2.PSs L2.PS L2.PE L2.PT L2.PW L2.PA L2.PG L2.PGs L2.PI L2.PTs L2.PC L2.PPs L2.PO
abbrev top (i:Nat):Stmt:=Hd.top i
local macro_rules|`(tactic| walk_at "rd") => `(tactic| ((try dsimp only [tYes, dza, Uy, bLa, Ends.less, NJ, Tr, Qh, QQ, Tu, bCa, c4a, XZ, MS, Za, Vz, aZa, UH, Vk, bDa, VE, a3a, Zv, Wp, Nh, Xe, Y3, bMa, U3, tNext, Pt, Dj, Pd, KG, gNil, bda, bOa, bxa, Ut, d1a, bKa, bFa, eda, ipI, Qj, UO, OT, tB, Lf, tC, LB, tOp, tUn, rI0, rI, rU, rEq, rNe, OS, bHa, Vh, Vx, tNil, bua, Y0, tCB, tBM, YF, bja, ZU, ZT, bya, Lz, UT, U9, Uw, WZ, B5, Xu, tDNewT, Yc, tOr, afa, Va, dSa, Us, tIf, ic, bG, List.set_cons_zero, List.set_cons_succ, og, oj]);(try simp only [tYes, dza, Uy, bLa, Ends.less, NJ, Tr, Qh, QQ, Tu, bCa, c4a, XZ, MS, Za, Vz, aZa, UH, Vk, bDa, VE, a3a, Zv, Wp, Nh, Xe, Y3, bMa, U3, tNext, Pt, Dj, Pd, KG, gNil, bda, bOa, bxa, Ut, d1a, bKa, bFa, eda, ipI, Qj, UO, OT, tB, Lf, tC, LB, tOp, tUn, rI0, rI, rU, rEq, rNe, coa, cya, caa, cna, cTa, cUa, OS, bHa, Vh, Vx, tNil, bua, Y0, tCB, tBM, YF, bja, ZU, ZT, bya, Lz, UT, U9, Uw, WZ, B5, Xu, tDNewT, Yc, tOr, afa, Va, dSa, Us, tIf, ic, bG, List.set_cons_zero, List.set_cons_succ, og, oj, Option.some.injEq, V.int.injEq, V.bl.injEq, V.ref.injEq, List.cons.injEq, exists_eq_left, exists_eq_left', exists_and_left, exists_const, and_true, true_and, ck, gR, mV, Bool.true_eq_false, bB, if_true, if_false])))
set_option genSizeOf false in
set_option genInjectivity false in
structure Txt (K:PySem.W.Frag) (mg:Str->Option Value) where
 TollError:Addr
 Sj:mg "TollError"=some (.ref TollError)
 BadWeb:Addr
 eMa:mg "BadWeb"=some (.ref BadWeb)
 NoPlace:Addr
 Wc:mg "NoPlace"=some (.ref NoPlace)
 NoRoad:Addr
 Zl:mg "NoRoad"=some (.ref NoRoad)
 BadLaying:Addr
 SB:mg "BadLaying"=some (.ref BadLaying)
 BadWish:Addr
 XQ:mg "BadWish"=some (.ref BadWish)
 BadStep:Addr
 MI:mg "BadStep"=some (.ref BadStep)
 Web:Addr
 eya:mg "Web"=some (.ref Web)
 era:XTop K TollError
 e2a:XErr K TollError BadWeb
 eHa:XErr K TollError NoPlace
 XO:LU K NoPlace
 e3a:XErr K TollError NoRoad
 YS:LU K NoRoad
 eqa:XErr K TollError BadLaying
 Sg:LU K BadLaying
 eFa:XErr K TollError BadWish
 WI:LU K BadWish
 MN:XErr K TollError BadStep
 Ta:BaseIn K TollError
 WY:XSet K BadStep TollError "at"
 eIa:PySem.W.findIn K (.ref BadStep) "at"=some none
 ndx:[TollError,BadWeb,NoPlace,NoRoad,BadLaying,BadWish,BadStep].Nodup
 range:mg "range"=none
 zip:mg "zip"=none
 len:mg "len"=none
 isinstance:mg "isinstance"=none
 all:mg "all"=none
 int:mg "int"=none
 bool:mg "bool"=none
 tuple:mg "tuple"=none
 list:mg "list"=none
 reversed:mg "reversed"=none
 sorted:mg "sorted"=none
 min:mg "min"=none
 enumerate:mg "enumerate"=none
 str:mg "str"=none
 set:mg "set"=none
 c_MOST_PLACES:∃ t,mg "MOST_PLACES"=some (.int 24 t)
 c_LEAST_TOLL:∃ t,mg "LEAST_TOLL"=some (.int 2 t)
 c_MOST_TOLL:∃ t,mg "MOST_TOLL"=some (.int 1000000 t)
 sN:Cls K Web
 n_many:NoAttr K Web "many"
 n_roads:NoAttr K Web "roads"
section
variable {P:Program} {w:World} {K:PySem.W.Frag} {mg:Str->Option Value} {base:Heap} {CX:CXT}
def Ag (T:Txt K mg):Sp:=fun vs H Q _=>∃ (m:Int) (t:Addr) (xs:List V),vs=[.int m,.ref t]/\SqT K H t xs/\1<=m/\m<=24/\(xs.length:Int)=m - 1/\Q .non H
abbrev eu:Stmt:=top 17
theorem K8:FnScope ["many","roads"] ["many","roads"] (ag eu):=FnScope.of (by kernel_rfl)
theorem uT:NmL (ag eu) "many":=.of (by kernel_rfl)
theorem Cm:NmL (ag eu) "roads":=.of (by kernel_rfl)
theorem ph:NmG (ag eu) "MOST_PLACES":=.of (by kernel_rfl)
theorem Ti:NmG (ag eu) "BadWeb":=.of (by kernel_rfl)
theorem qF:NmG (ag eu) "len":=.of (by kernel_rfl)
theorem Kt (T:Txt K mg) (hq:cr (CXe P w)) {f:Addr} {fd:FuncData} (D:Df K mg "check_counts" eu ["many","roads"] f fd):FnOk P w K mg base (CXe P w) 1 f fd ["many","roads"] (Ag T):=by
 refine D.F.okC K8 (fun vs H Q E h=>?_) (fun cdv A outer s H vs Q E hr h=>?_)
 . obtain ⟨m,t,xs,rfl,_⟩:=h
   rfl
 . obtain ⟨m,t,xs,rfl,ht,h1,h2,hl,k⟩:=h;refine ⟨_,(aF (eN (sL (Pj KQ KQ aH (pvl 0 uT) (IH ph.g T.c_MOST_PLACES (hd:=ph.d)))) (aN ww) cU) (aN (eN (cn yw (fG fV qF.g T.len oV (ah (pvl 1 Cm) ax) (hn:=qF.n) (hdb:=qF.d)) (aX pb (pvl 0 uT) aH) (b7 _)) (aN ww) cU))),?_⟩;rw [show L2.start ["many","roads"] [V.int m,V.ref t]=[some (V.int m),some (V.ref t)] from rfl];walk_at "rd";rw [am h1,aj (by omega)];exact ⟨xs,.inr ht,by rw [aj (by omega)];exact k⟩
def wF (T:Txt K mg):Sp:=fun vs H Q _=>∃ m n:Int,vs=[.int m,.int n]/\Q (.bl (decide (0<=n) && decide (n<m))) H
abbrev ik:Stmt:=top 16
theorem ST:FnScope ["many","number"] ["many","number"] (ag ik):=FnScope.of (by kernel_rfl)
theorem JW:NmL (ag ik) "many":=.of (by kernel_rfl)
theorem FD:NmL (ag ik) "number":=.of (by kernel_rfl)
theorem Sy (T:Txt K mg) (hq:cr (CXe P w)) {f:Addr} {fd:FuncData} (D:Df K mg "is_place" ik ["many","number"] f fd):FnOk P w K mg base (CXe P w) 1 f fd ["many","number"] (wF T):=by
 refine D.F.okC ST (fun vs H Q E h=>?_) (fun cdv A outer s H vs Q E hr h=>?_)
 . obtain ⟨m,n,rfl,_⟩:=h
   rfl
 . obtain ⟨m,n,rfl,k⟩:=h;refine ⟨_,(aN (b5 (bka KQ Ah aH (pvl 1 FD) (pvl 0 JW)))),?_⟩;rw [show L2.start ["many","number"] [V.int m,V.int n]=[some (V.int m),some (V.int n)] from rfl];walk_at "rd";by_cases c:0<=n
   . simpa [c] using k
   . simpa [c] using k
def Eh (T:Txt K mg):Sp:=fun vs H Q _=>∃ (m:Int) (p:Addr) (r:Road),vs=[.int m,.ref p]/\H p=some (.tup (rX r))/\0<=r.a/\r.a<m/\0<=r.b/\r.b<m/\r.a≠r.b/\Q .non H
abbrev fT:Stmt:=top 18
theorem Om:FnScope ["many","road"] ["many","road"] (ag fT):=FnScope.of (by kernel_rfl)
theorem wK:NmL (ag fT) "many":=.of (by kernel_rfl)
theorem mR:NmL (ag fT) "road":=.of (by kernel_rfl)
theorem jK:NmG (ag fT) "is_place":=.of (by kernel_rfl)
theorem Ux:NmG (ag fT) "BadWeb":=.of (by kernel_rfl)
theorem ON (T:Txt K mg) (hq:cr (CXe P w)) {f:Addr} {fd:FuncData} (D:Df K mg "check_ends" fT ["many","road"] f fd) {gN:Addr} {lK:FuncData} (dW:Df K mg "is_place" ik ["many","number"] gN lK) (jM:FnOk P w K mg base (CXe P w) 1 gN lK ["many","number"] (wF T)):FnOk P w K mg base (CXe P w) 2 f fd ["many","road"] (Eh T):=by
 refine D.F.okC Om (fun vs H Q E h=>?_) (fun cdv A outer s H vs Q E hr h=>?_)
 . obtain ⟨m,p,r,rfl,_⟩:=h
   rfl
 . obtain ⟨m,p,r,rfl,hp,a0,a1,b0,b1,ne,k⟩:=h;refine ⟨_,(aF (eN (PW.pt (GM (sL (wJ (aZ jM (hr.mono (by decide)) jK.g dW.m dW.F.kp dW.b .nil (cJ hq) (ah (pvl 0 wK) (ah (bu dR (pvl 1 mR) aH (fun _ _=>rfl)) ax)) (hdb:=jK.d)))) (Kx (sL (wJ (aZ jM (hr.mono (by decide)) jK.g dW.m dW.F.kp dW.b .nil (cJ hq) (ah (pvl 0 wK) (ah (bu dR (pvl 1 mR) aH (fun _ _=>rfl)) ax)) (hdb:=jK.d))))))) (aN ww) cU) (aN (eN (cn oB (bu dR (pvl 1 mR) aH (fun _ _=>rfl)) (bu dR (pvl 1 mR) aH (fun _ _=>rfl)) (b7 _)) (aN ww) cU))),?_⟩;rw [show L2.start ["many","road"] [V.int m,V.ref p]=[some (V.int m),some (V.ref p)] from rfl];walk_at "rd";refine ixT hp rfl ⟨m,r.a,rfl,_,rfl,?_⟩;rw [aj (by simp [a0,a1])];refine ixT hp rfl ⟨m,r.b,rfl,_,rfl,?_⟩;rw [aj (by simp [b0,b1])];refine ixT hp rfl (ixT hp rfl ⟨rfl,?_⟩);rw [aj (by simpa using ne)];exact k
def xt (T:Txt K mg):Sp:=fun vs H Q _=>∃ (t:Addr) (ps:List Addr) (rs:List Road) (n:Int),vs=[.ref t,.int n]/\SqT K H t (ps.map V.ref)/\RoadsAt H ps rs/\rs.length<=1000 /\
 ∀ l H',H l=none->Same H H'->H' l=some (.lst ((gn rs n).map V.int))->Q (.ref l) H'
abbrev fE:Stmt:=top 21
theorem xG:FnScope ["roads","place","ends","road"] ["roads","place"] (ag fE):=FnScope.of (by kernel_rfl)
theorem ED:NmL (ag fE) "roads":=.of (by kernel_rfl)
theorem vK:NmL (ag fE) "place":=.of (by kernel_rfl)
theorem mZ:NmL (ag fE) "ends":=.of (by kernel_rfl)
theorem j7:NmL (ag fE) "road":=.of (by kernel_rfl)
theorem Ox (T:Txt K mg) (hq:cr (CXe P w)) {f:Addr} {fd:FuncData} (D:Df K mg "other_ends" fE ["roads","place"] f fd):FnOk P w K mg base (CXe P w) 1 f fd ["roads","place"] (xt T):=by
 refine D.F.okC xG (fun vs H Q E h=>?_) (fun cdv A outer s H vs Q E hr h=>?_)
 . obtain ⟨t,ps,rs,n,rfl,_⟩:=h
   rfl
 . obtain ⟨t,ps,rs,n,rfl,ht,hp,hl,k⟩:=h;refine ⟨_,(aF (bz (i:=2) xG.nd rfl (Or.inl mZ.l) (eE ax)) (aF (gB PassesOwn.never rfl (FR (pvl 0 ED)) (bE (i:=3) xG.nd rfl (Or.inl j7.l)) (aF (eN (cn oB (bu dR (pvl 3 j7) aH (fun _ _=>rfl)) (pvl 1 vK) (b7 _)) (aN (dy (ki PySem.F.plainAttrs_list PySem.F.slot_list_append PySem.F.type_list_append eI (pvl 2 mZ) (ah (bu dR (pvl 3 j7) aH (fun _ _=>rfl)) ax)))) cU) (aN (eN (cn oB (bu dR (pvl 3 j7) aH (fun _ _=>rfl)) (pvl 1 vK) (b7 _)) (aN (dy (ki PySem.F.plainAttrs_list PySem.F.slot_list_append PySem.F.type_list_append eI (pvl 2 mZ) (ah (bu dR (pvl 3 j7) aH (fun _ _=>rfl)) ax)))) cU)))) (aN (b5 (pvl 2 mZ))))),?_⟩;rw [show L2.start ["roads","place","ends","road"] [V.ref t,V.int n]=[some (V.ref t),some (V.int n),none,none] from rfl];walk_at "rd";refine ⟨by decide,fun l hn=>?_⟩;have hlen:ps.length=rs.length:=Paired.length hp;refine ⟨⟨_,Same.tup (Same.new _ hn) ht⟩,GH (xs:=ps.map V.ref) (fun i σ H2=>H2=upd H l (.lst ((gn (rs.take i) n).map V.int))/\∃ v,σ=[some (.ref t),some (.int n),some (.ref l),v]) ⟨rfl,_,rfl⟩ (fun i σ H2 _ z=>by rw [z.1];exact Same.tup (Same.new _ hn) ht) ?_ ?_⟩
   . rintro i x σ H2 hi ⟨rfl,v,rfl⟩;obtain ⟨p,r,rfl,h1,h2,h3⟩:=hp.get hi;have np:p≠l:=dc h3 hn;have hil:i<rs.length:=(aB.mp h2).1;have et:rs.take (i+1)=rs.take i++[r]:=(by rw [bS,h2];rfl);have hb:(gn (rs.take i) n).length<=2000:=bP (Po _ _) (by rw [bo];omega);have hx:∀ o,upd H l o p=some (.tup (rX r)):=fun o=>by rw [aR np];exact h3
     walk_at "rd";refine ixT (hx _) rfl ?_;walk_at "rd";have fin:∀ (ys:List Int),(gn (rs.take i) n++ys)=gn (rs.take (i+1)) n->upd H l (.lst ((gn (rs.take i) n).map V.int++ys.map V.int))=upd H l (.lst ((gn (rs.take (i+1)) n).map V.int)):=fun ys e=>by
       rw [<- aK,e]
     have e1:AB n r=(if r.a=n then [r.b] else [])++(if r.b=n then [r.a] else []):=rfl;by_cases ca:r.a=n
     . rw [am ca];refine ⟨tyL aq,ixT (hx _) rfl (uY aq (gk (by rw [ak];omega)) ?_)⟩;rw [uC];refine ixT (hx _) rfl ?_;walk_at "rd";by_cases cb:r.b=n
       . rw [am cb];refine ⟨tyL aq,ixT (hx _) rfl (uY aq (gk (by rw [au,ak];simp;omega)) ?_)⟩;rw [uC,cq];exact ⟨fin [r.b,r.a] (by rw [et,Az,e1,am ca,am cb];rfl),_,rfl⟩
       . rw [aj cb];exact ⟨fin [r.b] (by rw [et,Az,e1,am ca,aj cb];rfl),_,rfl⟩
     . rw [aj ca];refine ixT (hx _) rfl ?_;walk_at "rd";by_cases cb:r.b=n
       . rw [am cb];refine ⟨tyL aq,ixT (hx _) rfl (uY aq (gk (by rw [ak];omega)) ?_)⟩;rw [uC];exact ⟨fin [r.a] (by rw [et,Az,e1,aj ca,am cb];rfl),_,rfl⟩
       . rw [aj cb];have:=fin [] (by rw [et,Az,e1,aj ca,aj cb];rfl);rw [gc,bG] at this;exact ⟨this,_,rfl⟩
   . rintro σ H2 ⟨rfl,v,rfl⟩;rw [ak,hlen,db];exact ⟨_,rfl,k l _ hn (Same.new _ hn) aq⟩
def rP (ks:List Int):List (Key × V):=ks.map fun k=>((Sum.inl k:Key),V.bl true)
theorem Nz (ks:List Int):(rP ks).length=ks.length:=by unfold rP;rw [ak]
theorem Qa (ks:List Int) (e:Int):iH (rP ks) (Sum.inl e:Key)=if e∈ks then some (V.bl true) else none:=by
 unfold rP
 induction ks with
 | nil=>rfl
 | cons k ks ih =>
   rw [aW];by_cases c:k=e
   . rw [kD (by rw [c]),am (by rw [c];exact aO)]
   . rw [kK (fun z=>c (Sum.inl.inj z)),ih];by_cases d:e∈ks
     . rw [am d,am (aL _ d)]
     . rw [aj d,aj (fun z=>by rcases az.mp z with z|z;exact c z.symm;exact d z)]
theorem Yk {ks:List Int} {e:Int} (h:e ∉ ks):jE (rP ks) (Sum.inl e:Key) (V.bl true)=rP (ks++[e]):=by
 rw [aPa _ (by rw [Qa,aj h])];unfold rP;rw [aK]
 rfl
def Ap (T:Txt K mg):Sp:=fun vs H Q _=>∃ (m:Int) (t:Addr) (ps:List Addr) (rs:List Road),vs=[.int m,.ref t]/\SqT K H t (ps.map V.ref)/\RoadsAt H ps rs/\Good m rs/\∀ H',Same H H'->Q .non H'
abbrev cP:Stmt:=top 20
theorem mS:FnScope ["many","roads","reached","waiting","place","end"] ["many","roads"] (ag cP):=FnScope.of (by kernel_rfl)
theorem Dg:NmL (ag cP) "many":=.of (by kernel_rfl)
theorem BX:NmL (ag cP) "roads":=.of (by kernel_rfl)
theorem jo:NmL (ag cP) "reached":=.of (by kernel_rfl)
theorem je:NmL (ag cP) "waiting":=.of (by kernel_rfl)
theorem uD:NmL (ag cP) "place":=.of (by kernel_rfl)
theorem mn:NmL (ag cP) "end":=.of (by kernel_rfl)
theorem pY:NmG (ag cP) "other_ends":=.of (by kernel_rfl)
theorem qD:NmG (ag cP) "len":=.of (by kernel_rfl)
theorem SK:NmG (ag cP) "BadWeb":=.of (by kernel_rfl)
theorem J8 (T:Txt K mg) (hq:cr (CXe P w)) {f:Addr} {fd:FuncData} (D:Df K mg "check_joined" cP ["many","roads"] f fd) {hW:Addr} {pV:FuncData} (gH:Df K mg "other_ends" fE ["roads","place"] hW pV) (o8:FnOk P w K mg base (CXe P w) 1 hW pV ["roads","place"] (xt T)):FnOk P w K mg base (CXe P w) 2 f fd ["many","roads"] (Ap T):=by
 refine D.F.okC mS (fun vs H Q E h=>?_) (fun cdv A outer s H vs Q E hr h=>?_)
 . obtain ⟨m,t,ps,rs,rfl,_⟩:=h
   rfl
 . obtain ⟨m,t,ps,rs,rfl,ht,hp,g,k⟩:=h;have hu:=Ar hr;refine ⟨_,(aF (bz (i:=2) mS.nd rfl (Or.inl jo.l) (cqa (a5a aH GD bUa) rfl rfl (List.cons_ne_nil _ _) (by decide))) (aF (bz (i:=3) mS.nd rfl (Or.inl je.l) (eE (ah aH ax))) (aF (Dv PassesOwn.never (IT (pvl 3 je) (fun _=>rfl)) (aF (bz (i:=4) mS.nd rfl (Or.inl uD.l) (P3 PySem.F.plainAttrs_list PySem.F.slot_list_pop PySem.F.type_list_pop Rz (pvl 3 je))) (aN (gB PassesOwn.never rfl (mI (aZ o8 (hr.mono (by decide)) pY.g gH.m gH.F.kp gH.b .nil (cJ hq) (ah (pvl 1 BX) (ah (pvl 4 uD) ax)) (hdb:=pY.d))) (bE (i:=5) mS.nd rfl (Or.inl mn.l)) (aN (eN (yN (MY hu (pvl 5 mn) (pvl 2 jo))) (aF (LS hu (pvl 2 jo) (pvl 5 mn) GD rfl) (aN (dy (ki PySem.F.plainAttrs_list PySem.F.slot_list_append PySem.F.type_list_append eI (pvl 3 je) (ah (pvl 5 mn) ax))))) cU)))))) (aN (eN (cn yw (fG Wn qD.g T.len oV (ah (pvl 2 jo) ax) (hn:=qD.n) (hdb:=qD.d)) (pvl 0 Dg) (b7 _)) (aN ww) cU))))),?_⟩;rw [show L2.start ["many","roads","reached","waiting","place","end"] [V.int m,V.ref t]=[some (V.int m),some (V.ref t),none,none,none,none] from rfl];have m1:=g.m1;have m24:=g.m24;have glen:=g.len;walk_at "rd";intro d hd;refine ⟨aq,[(Sum.inl 0,.bl true)],rfl,by decide,?_⟩;rw [uC];refine ⟨by decide,fun w0 hw=>?_⟩;have ed:BZ [] [((Sum.inl 0:Key),V.bl true)]=rP [0]:=rfl;rw [ed];have ndw:w0≠d:=fun z=>by rw [z,aq] at hw;cases hw
   have hw0:H w0=none:=by rw [aR ndw] at hw;exact hw
   refine LC (fun n σ H2=>∃ (ks ws:List Int) (v4 v5:Option V),n=2*(m.toNat - ks.length)+ws.length/\σ=[some (.int m),some (.ref t),some (.ref d),some (.ref w0),v4,v5]/\Same H H2/\H2 d=some (.dK (rP ks))/\H2 w0=some (.lst (ws.map V.int))/\JInv m rs ks ws) _ ⟨[0],[0],none,none,rfl,rfl,?_,?_,aq,JInv.start m1⟩ ?_
   . exact Same.trans (Same.new _ hd) (Same.new _ hw)
   . rw [aR ndw.symm,aq]
   rintro n σ H2 NW hN hN2 ⟨ks,ws,v4,v5,rfl,rfl,sm,h1,h2,J⟩;have kl:=gX (by omega) J.nd J.rng;refine ⟨_,rfl,!(ws.map V.int).isEmpty,.inl ⟨_,SqL.of h2,rfl⟩,?_⟩;rcases jU ws with rfl|⟨ws',p,rfl⟩
   . -- nothing waits: all places have been reached
     have full:=J.all m1 g.jn;refine eOa ?_;walk_at "rd";refine ⟨rP ks,h1,?_⟩;rw [Nz,aj (by omega)];exact k _ sm
   . rw [j6] at J h2 hN hN2 ⊢;have e1:(!(List.map V.int (ws'++[p])).isEmpty)=true:=(by simp);rw [e1];refine eJa ⟨NW,hN2,?_⟩;walk_at "rd";rw [aK,aW,gc] at h2;refine ⟨tyL h2,aoa h2 ?_⟩;have ndw':d≠w0:=ndw.symm;have sm2:Same H (upd H2 w0 (.lst (ws'.map V.int))):=fun b o e=>by rw [aR (dc e hw0)];exact sm b o e
     refine ⟨t,ps,rs,p,rfl,Same.tup sm2 ht,RoadsAt.same sm2 hp,by omega,fun l H3 hn s3 hl=>?_⟩;have nlw:w0≠l:=dc (o:=.lst (ws'.map V.int)) aq hn;have nld:d≠l:=dc (o:=.dK (rP ks)) (by rw [aR ndw'];exact h1) hn;have hl0:H l=none:=sm2.free hn;refine ⟨l,rfl,⟨_,SqL.of hl⟩,AH (K:=K) (xs:=(gn rs p).map V.int) (fun i σ H4=>∃ (v5:Option V),σ=[some (.int m),some (.ref t),some (.ref d),some (.ref w0),some (.int p),v5]/\Same H H4/\H4 l=some (.lst ((gn rs p).map V.int)) /\
       ∃ ks4 ws4:List Int,H4 d=some (.dK (rP ks4))/\H4 w0=some (.lst (ws4.map V.int))/\JMid m rs p ((gn rs p).take i) ks4 ws4 ks ws'.length) ?_ (fun i σ H4 _ z=>by obtain ⟨_,_,_,z,_⟩:=z;exact SqL.of z) ?_ ?_⟩
     . refine ⟨_,rfl,sm2.trans s3,hl,ks,ws',?_,?_,?_⟩
       . exact s3 _ _ (by rw [aR ndw'];exact h1)
       . exact s3 _ _ aq
       . rw [cR];exact JMid.start J
     . rintro i x σ H4 NI hI hi ⟨v5,rfl,s4,hl4,ks4,ws4,hd4,hw4,M⟩;rw [aU] at hi;obtain ⟨e,he,rfl⟩:∃ e,(gn rs p)[i]?=some e/\V.int e=x:=by
         cases q:(gn rs p)[i]? with
         | none=>rw [q] at hi;cases hi
         | some e=>rw [q] at hi;exact ⟨e,rfl,bh hi⟩
       have er:=Zn g.ok (bd he);have et:(gn rs p).take (i+1)=(gn rs p).take i++[e]:=(by rw [bS,he];rfl);have st:=M.step er.1 er.2;have k4:=gX (by omega) M.nd M.rng;have mu4:=M.mu;walk_at "rd";refine ⟨_,DGet.k (k:=Sum.inl e) hd4,?_⟩;rw [Qa];by_cases c:e∈ks4
       . rw [am c];rw [aj (by simp)];refine hI _ _ ⟨_,rfl,s4,hl4,ks4,ws4,hd4,hw4,?_⟩;rw [et];unfold J9 at st;rw [am c] at st;exact st
       . rw [aj c];rw [am (by simp)];refine ⟨_,DPut.k (k:=Sum.inl e) hd4 (gk (by rw [Nz];omega)),?_⟩;rw [Yk c];have hw5:upd H4 d (.dK (rP (ks4++[e]))) w0=some (.lst (ws4.map V.int)):=(by rw [aR ndw];exact hw4);refine ⟨tyL hw5,uY hw5 (gk (by rw [ak];have:=M.wl;omega)) ?_⟩;have hmid:=M.mu;refine hI _ _ ⟨_,rfl,fun b o z=>?_,?_,ks4++[e],ws4++[e],?_,?_,?_⟩
         . rw [aR (dc z hw0),aR (dc z hd)];exact s4 b o z
         . rw [aR nlw.symm,aR nld.symm];exact hl4
         . rw [aR ndw',aq]
         . rw [aq,aK];rfl
         . rw [et];unfold J9 at st;rw [aj c] at st;exact st
     . rintro σ H4 ⟨v5,rfl,s4,hl4,ks4,ws4,hd4,hw4,M⟩;rw [ak,db] at M;have k4:=gX (by omega) M.nd M.rng;have mu4:=M.mu;have up4:=M.up;refine hN _ _ _ ?_ ⟨ks4,ws4,some (.int p),v5,rfl,rfl,s4,hd4,hw4,M.done⟩;rw [au];simp only [aQ,f7];omega
def Cb (T:Txt K mg):Sp:=fun vs H Q _=>∃ (p:Addr) (r:Road),vs=[.ref p]/\H p=some (.tup (rX r))/\2<=r.t/\r.t<=1000000/\2<=r.u/\r.u<=1000000/\∀ H',Same H H'->Q .non H'
abbrev eT:Stmt:=top 19
theorem Cs:FnScope ["road","number"] ["road"] (ag eT):=FnScope.of (by kernel_rfl)
theorem vI:NmL (ag eT) "road":=.of (by kernel_rfl)
theorem uw:NmL (ag eT) "number":=.of (by kernel_rfl)
theorem qR:NmG (ag eT) "LEAST_TOLL":=.of (by kernel_rfl)
theorem rJ:NmG (ag eT) "MOST_TOLL":=.of (by kernel_rfl)
theorem Ui:NmG (ag eT) "BadWeb":=.of (by kernel_rfl)
theorem Md (T:Txt K mg) (hq:cr (CXe P w)) {f:Addr} {fd:FuncData} (D:Df K mg "check_tolls" eT ["road"] f fd):FnOk P w K mg base (CXe P w) 1 f fd ["road"] (Cb T):=by
 refine D.F.okC Cs (fun vs H Q E h=>?_) (fun cdv A outer s H vs Q E hr h=>?_)
 . obtain ⟨p,r,rfl,_⟩:=h
   rfl
 . obtain ⟨p,r,rfl,hp,t0,t1,u0,u1,k⟩:=h;refine ⟨_,(aN (gB PassesOwn.never rfl (FR (dD (ah (bu dR (pvl 0 vI) aH (fun _ _=>rfl)) (ah (bu dR (pvl 0 vI) aH (fun _ _=>rfl)) ax)))) (bE (i:=1) Cs.nd rfl (Or.inl uw.l)) (aN (eN (sL (Pj KQ KQ (IH qR.g T.c_LEAST_TOLL (hd:=qR.d)) (pvl 1 uw) (IH rJ.g T.c_MOST_TOLL (hd:=rJ.d)))) (aN ww) cU)))),?_⟩;rw [show L2.start ["road","number"] [V.ref p]=[some (V.ref p),none] from rfl];walk_at "rd";refine ixT hp rfl (ixT hp rfl ⟨bn (by simp),fun q hn=>?_⟩);have e1:upd H q (.tup [.int r.t,.int r.u]) q=some (.tup [.int r.t,.int r.u]):=aq;refine ⟨⟨_,SqT.of e1⟩,GH (K:=K) (xs:=[.int r.t,.int r.u]) (fun i σ H2=>H2=upd H q (.tup [.int r.t,.int r.u])/\∃ v,σ=[some (.ref p),v]) ⟨rfl,_,rfl⟩ (fun i σ H2 _ z=>by rw [z.1];exact SqT.of e1) ?_ ?_⟩
   . rintro i x σ H2 hi ⟨rfl,v,rfl⟩;have hx:∃ n:Int,x=.int n/\2<=n/\n<=1000000:=by
       match i,hi with
       | 0,hi=>exact ⟨r.t,by simpa using hi.symm,t0,t1⟩
       | 1,hi=>exact ⟨r.u,by simpa using hi.symm,u0,u1⟩
     obtain ⟨n,rfl,n0,n1⟩:=hx;walk_at "rd";rw [am n0,aj (by omega)];exact ⟨_,rfl⟩
   . rintro σ H2 ⟨rfl,v,rfl⟩;exact k _ (Same.new _ hn)
/-- the attributes of a web -/
def KO (m:Int) (t:Addr):List (Str × V):=qw "roads" (.ref t) (qw "many" (.int m) [])
theorem eua:¬ (("many":Str)="roads"):=by decide +kernel
theorem uP (m:Int) (t:Addr):(KO m t).lookup ("many":Str)=some (.int m):=by
 unfold KO;rw [sX,aj eua,sX,am rfl]
theorem HX (m:Int) (t:Addr):(KO m t).lookup ("roads":Str)=some (.ref t):=by
 unfold KO;rw [sX,am rfl]
/-- a web of m places and the roads rs stands at p,its tuple at t,the roads' tuples at ps -/
structure WebAt (C:Addr) (H:Hp) (p:Addr) (m:Int) (t:Addr) (ps:List Addr) (rs:List Road):Prop where
 ob:∃ dx,H p=some (.ins C dx (KO m t))
 tu:H t=some (.tup (ps.map V.ref))
 ro:RoadsAt H ps rs
 go:Good m rs
theorem WebAt.same {C:Addr} {H H':Hp} {p:Addr} {m:Int} {t:Addr} {ps:List Addr} {rs:List Road} (e:Same H H') (h:WebAt C H p m t ps rs):WebAt C H' p m t ps rs :=
 ⟨let ⟨dx,q⟩:=h.ob;⟨dx,e _ _ q⟩,e _ _ h.tu,RoadsAt.same e h.ro,h.go⟩
def vE (T:Txt K mg):Sp:=fun vs H Q _=>∃ (p dx:Addr) (m:Int) (c:Bool) (a:Addr) (ps:List Addr) (rs:List Road),vs=[.ref p,.int m,.ref a]/\H p=some (.ins T.Web dx [])/\SqX K c H a (ps.map V.ref)/\RoadsAt H ps rs/\Good m rs /\
 ∀ t H',H t=none->WebAt T.Web H' p m t ps rs->(∀ b o,H b=some o->b≠p->H' b=some o)->Q .non H'
abbrev cQ:Stmt:=Tp (top 12) 0
theorem vF:FnScope ["self","many","roads","kept","road"] ["self","many","roads"] (ag cQ):=FnScope.of (by kernel_rfl)
theorem vc:NmL (ag cQ) "self":=.of (by kernel_rfl)
theorem kX:NmL (ag cQ) "many":=.of (by kernel_rfl)
theorem Cd:NmL (ag cQ) "roads":=.of (by kernel_rfl)
theorem iL:NmL (ag cQ) "kept":=.of (by kernel_rfl)
theorem pQ:NmL (ag cQ) "road":=.of (by kernel_rfl)
theorem oW:NmG (ag cQ) "tuple":=.of (by kernel_rfl)
theorem o9:NmG (ag cQ) "check_counts":=.of (by kernel_rfl)
theorem pU:NmG (ag cQ) "check_ends":=.of (by kernel_rfl)
theorem pf:NmG (ag cQ) "check_tolls":=.of (by kernel_rfl)
theorem oY:NmG (ag cQ) "check_joined":=.of (by kernel_rfl)
theorem KU (T:Txt K mg) (hq:cr (CXe P w)) {f:Addr} {fd:FuncData} (F:Fun K "__init__" "Web.__init__" cQ f fd) {jC:Addr} {Au:FuncData} (lM:Df K mg "check_counts" eu ["many","roads"] jC Au) (vW:FnOk P w K mg base (CXe P w) 1 jC Au ["many","roads"] (Ag T)) {lX:Addr} {Eu:FuncData} (oO:Df K mg "check_ends" fT ["many","road"] lX Eu) (zm:FnOk P w K mg base (CXe P w) 2 lX Eu ["many","road"] (Eh T)) {jF:Addr} {AA:FuncData} (lL:Df K mg "check_joined" cP ["many","roads"] jF AA) (we:FnOk P w K mg base (CXe P w) 2 jF AA ["many","roads"] (Ap T)) {kC:Addr} {B0:FuncData} (mO:Df K mg "check_tolls" eT ["road"] kC B0) (xf:FnOk P w K mg base (CXe P w) 1 kC B0 ["road"] (Cb T)):FnOk P w K mg base (CXe P w) 3 f fd ["self","many","roads"] (vE T):=by
 refine F.okC vF (fun vs H Q E h=>?_) (fun cdv A outer s H vs Q E hr h=>?_)
 . obtain ⟨p,dx,m,c,a,ps,rs,rfl,_⟩:=h
   rfl
 . obtain ⟨p,dx,m,c,a,ps,rs,rfl,hp,ha,hro,g,k⟩:=h;refine ⟨_,(aF (bz (i:=3) vF.nd rfl (Or.inl iL.l) (dN dM oW.g T.tuple iq (ah (wf rfl (Jw (Nc:=["road"]) 1 (by decide +kernel) (by decide +kernel) rfl (by decide +kernel) rfl) (QX c (pvl 2 Cd)) (fun _ _ _ _=>(bE (i:=0) (show (["road"]:List Str).Nodup from by decide +kernel) rfl (Or.inl rfl))) (fun _ _ _ _=>uK) (fun _ _ _ _=>(dN (Mq K rfl) (by rfl) T.tuple iq (ah (pv 0) ax)))) ax) (hn:=oW.n) (hdb:=oW.d))) (aF (dy (aZ vW (hr.mono (by decide)) o9.g lM.m lM.F.kp lM.b .nil (cJ hq) (ah (pvl 1 kX) (ah (pvl 3 iL) ax)) (hdb:=o9.d))) (aF (gB PassesOwn.never rfl (FR (pvl 3 iL)) (bE (i:=4) vF.nd rfl (Or.inl pQ.l)) (aF (dy (aZ zm (hr.mono (by decide)) pU.g oO.m oO.F.kp oO.b .nil (cJ hq) (ah (pvl 1 kX) (ah (pvl 4 pQ) ax)) (hdb:=pU.d))) (aN (dy (aZ xf (hr.mono (by decide)) pf.g mO.m mO.F.kp mO.b .nil (cJ hq) (ah (pvl 4 pQ) ax) (hdb:=pf.d)))))) (aF (dy (aZ we (hr.mono (by decide)) oY.g lL.m lL.F.kp lL.b .nil (cJ hq) (ah (pvl 1 kX) (ah (pvl 3 iL) ax)) (hdb:=oY.d))) (aF (XJ (pvl 0 vc) (pvl 1 kX) rfl) (aN (XJ (pvl 0 vc) (pvl 3 iL) rfl))))))),?_⟩;rw [show L2.start ["self","many","roads","kept","road"] [V.ref p,V.int m,V.ref a]=[some (V.ref p),some (V.int m),some (V.ref a),none,none] from rfl];walk_at "rd";refine ⟨⟨_,ha⟩,fun l hl=>?_⟩;have hlen:ps.length=rs.length:=Paired.length hro;have glen:=g.len;have m24:=g.m24;have hl1:Same H (upd H l (.lst [])):=Same.new _ hl;refine Jb (K:=K) (xs:=ps.map V.ref) (fun i ys σ H2=>H2=upd H l (.lst ((ps.take i).map V.ref))/\ys=(ps.take i).map V.ref/\∃ v,σ=[v]) ⟨rfl,rfl,_,rfl⟩ (fun i ys σ H2 _ ⟨z,_⟩=>by rw [z];exact Same.sqX (Same.new _ hl) ha) ?_ ?_
   . rintro i x ys σ H2 N hN hi ⟨rfl,rfl,v,rfl⟩;obtain ⟨q,r,rfl,h1,h2,h3⟩:=hro.get hi;have nq:q≠l:=dc h3 hl;have hil:i<ps.length:=(aB.mp h1).1;have et:ps.take (i+1)=ps.take i++[q]:=(by rw [bS,h1];rfl);walk_at "rd";refine ⟨rX r,.inr ⟨SqT.of (by rw [aR nq];exact h3),aq,gk (by rw [ak,bo];omega),hN _ _ _ ⟨?_,?_,_,rfl⟩⟩⟩
     . rw [uC,et,aK];rfl
     . rw [et,aK];rfl
   . rintro ys σ H2 ⟨rfl,rfl,v,rfl⟩;rw [ak,db];refine ⟨l,rfl,ps.map V.ref,.inl ⟨SqL.of aq,fun t ht=>?_⟩⟩;have s1:Same H (upd H l (.lst (ps.map V.ref))):=Same.new _ hl;have s2:Same (upd H l (.lst (ps.map V.ref))) (upd (upd H l (.lst (ps.map V.ref))) t (.tup (ps.map V.ref))):=Same.new _ ht;have ht0:H t=none:=s1.free ht;have ht1:∀ {H':Hp},Same (upd (upd H l (.lst (ps.map V.ref))) t (.tup (ps.map V.ref))) H'->H' t=some (.tup (ps.map V.ref)):=fun e=>e _ _ aq;refine ⟨m,t,ps.map V.ref,rfl,SqT.of aq,g.m1,g.m24,by rw [ak];omega,⟨_,SqT.of aq⟩,?_⟩;refine Rx (K:=K) (xs:=ps.map V.ref) (fun i σ H3=>Same (upd (upd H l (.lst (ps.map V.ref))) t (.tup (ps.map V.ref))) H3/\∃ v,σ=[some (.ref p),some (.int m),some (.ref a),some (.ref t),v]) ⟨Same.refl _,_,rfl⟩ (fun i σ H3 _ ⟨z,_⟩=>SqT.of (ht1 z)) ?_ ?_
     . rintro i x σ H3 N hN hi ⟨s3,v,rfl⟩;have s03:=s1.trans (s2.trans s3);obtain ⟨q,r,rfl,h1,h2,h3⟩:=hro.get hi;have ok:=g.ok r (bd h2);walk_at "rd";refine ⟨m,q,r,rfl,s03 _ _ h3,ok.a0,ok.a1,ok.b0,ok.b1,ok.ne,?_⟩;exact ⟨q,r,rfl,s03 _ _ h3,ok.t0,ok.t1,ok.u0,ok.u1,fun H4 s4=>hN _ _ ⟨s3.trans s4,_,rfl⟩⟩
     . rintro σ H3 ⟨s3,v,rfl⟩;have s03:=s1.trans (s2.trans s3);walk_at "rd";refine ⟨m,t,ps,rs,rfl,SqT.of (ht1 s3),RoadsAt.same s03 hro,g,fun H4 s4=>?_⟩;have s04:=s03.trans s4;have ntp:t≠p:=fun z=>by rw [z,hp] at ht0;cases ht0
       refine ⟨T.Web,dx,[],s04 _ _ hp,T.sN,T.n_many,by decide,?_⟩;refine ⟨T.Web,dx,_,aq,T.sN,T.n_roads,by show 1<1000;decide,?_⟩;rw [uC];refine k t _ ht0 ⟨⟨dx,aq⟩,?_,?_,g⟩ fun b o hb nb=>?_
       . rw [aR ntp];exact ht1 (s3.trans s4)
       . refine Paired.imp' (fun q r hq=>?_) hro;rw [aR (lA hq hp (by intro z;cases z))];exact s04 _ _ hq
       . rw [aR nb];exact s04 _ _ hb
/-- Web(m,roads),at a call: nothing is changed,a new web stands -/
theorem c0a (T:Txt K mg) {H:Hp} {m:Int} {c:Bool} {a:Addr} {ps:List Addr} {rs:List Road} {Q:Addr->Hp->Prop} (ha:SqX K c H a (ps.map V.ref)) (ro:RoadsAt H ps rs) (g:Good m rs)
   (k:∀ x t H',H x=none->H t=none->Same H H'->WebAt T.Web H' x m t ps rs->Q x H') :
   ∀ x dx,H x=none->H dx=none->dx≠x->vE T [.ref x,.int m,.ref a] (upd (upd H dx (.own x)) x (.ins T.Web dx [])) (fun v H2=>v=.non/\Q x H2) E0:=by
 intro x dx hx hdx ne;have hx1:upd H dx (.own x) x=none:=by rw [aR ne.symm];exact hx
 have s0:Same H (upd (upd H dx (.own x)) x (.ins T.Web dx [])):=(Same.new _ hdx).trans (Same.new _ hx1);exact ⟨x,dx,m,c,a,ps,rs,rfl,aq,Same.sqX s0 ha,RoadsAt.same s0 ro,g,fun t H' ht W kp=>⟨rfl,k x t H' hx (s0.free ht) (fun b o e=>kp b o (s0 b o e) (dc e hx)) W⟩⟩
/-- the dict of the tolls of the first roads -/
def b5a (H:Hp) (d:Addr) (rs:List Road) (n:Nat):Prop:=∃ kvs,H d=some (.dT kvs)/\(kvs.length<=2*n/\∀ p∈kvs,∃ a b:Int,p.1=[.inl a,.inl b])/\∀ a b:Int,(∀ i x,i<n->rs[i]?=some x->uQ x a b->iH kvs [.inl a,.inl b]=(jp a b x).map V.int)/\((∀ i x,i<n->rs[i]?=some x->¬ uQ x a b)->iH kvs [.inl a,.inl b]=none)
/-- the dict of the tolls of a web -/
structure TollsAt (H:Hp) (d:Addr) (rs:List Road):Prop where
 ex:∃ kvs,H d=some (.dT kvs)/\∀ a b:Int,iH kvs [.inl a,.inl b]=(cS rs a b).map V.int
 ks:∃ kvs,H d=some (.dT kvs)/\kvs.length<=2*rs.length/\∀ p∈kvs,∃ a b:Int,p.1=[.inl a,.inl b]
theorem TollsAt.same {H H':Hp} {d:Addr} {rs:List Road} (e:Same H H') (h:TollsAt H d rs):TollsAt H' d rs:=by
 obtain ⟨kvs,h1,h2⟩:=h.ex;obtain ⟨kws,h3,h4⟩:=h.ks;exact ⟨⟨kvs,e _ _ h1,h2⟩,⟨kws,e _ _ h3,h4⟩⟩
def Gz (T:Txt K mg):Sp:=fun vs H Q _=>∃ (l:Addr) (ps:List Addr) (m:Int) (rs:List Road),vs=[.ref l]/\H l=some (.lst (ps.map V.ref))/\RoadsAt H ps rs/\Good m rs/\∀ d H',H d=none->Same H H'->TollsAt H' d rs->Q (.ref d) H'
abbrev fL:Stmt:=top 51
theorem oM:FnScope ["roads","tolls","one","other","there","back"] ["roads"] (ag fL):=FnScope.of (by kernel_rfl)
theorem Gi:NmL (ag fL) "roads":=.of (by kernel_rfl)
theorem m8:NmL (ag fL) "tolls":=.of (by kernel_rfl)
theorem ub:NmL (ag fL) "one":=.of (by kernel_rfl)
theorem rG:NmL (ag fL) "other":=.of (by kernel_rfl)
theorem wL:NmL (ag fL) "there":=.of (by kernel_rfl)
theorem xX:NmL (ag fL) "back":=.of (by kernel_rfl)
theorem QT (T:Txt K mg) (hq:cr (CXe P w)) {f:Addr} {fd:FuncData} (D:Df K mg "_law_tolls" fL ["roads"] f fd):FnOk P w K mg base (CXe P w) 1 f fd ["roads"] (Gz T):=by
 refine D.F.okC oM (fun vs H Q E h=>?_) (fun cdv A outer s H vs Q E hr h=>?_)
 . obtain ⟨l,ps,m,rs,rfl,_⟩:=h
   rfl
 . obtain ⟨l,ps,m,rs,rfl,hl,ro,g,k⟩:=h;have hu:=Ar hr;refine ⟨_,(aF (bz (i:=1) oM.nd rfl (Or.inl m8.l) ZM) (aF (gB PassesOwn.never rfl (mI (pvl 0 Gi)) (rf (n:=4) rfl (c7 (bE (i:=2) oM.nd rfl (Or.inl ub.l)) (c7 (bE (i:=3) oM.nd rfl (Or.inl rG.l)) (c7 (bE (i:=4) oM.nd rfl (Or.inl wL.l)) (c7 (bE (i:=5) oM.nd rfl (Or.inl xX.l)) oF))))) (aF (LS hu (pvl 1 m8) (dD (ah (pvl 2 ub) (ah (pvl 3 rG) ax))) (pvl 4 wL) rfl) (aN (LS hu (pvl 1 m8) (dD (ah (pvl 3 rG) (ah (pvl 2 ub) ax))) (pvl 5 xX) rfl)))) (aN (b5 (pvl 1 m8))))),?_⟩;rw [show L2.start ["roads","tolls","one","other","there","back"] [V.ref l]=[some (V.ref l),none,none,none,none,none] from rfl];walk_at "rd";intro d hd;have s0:=Same.new (.dT []) hd;have hlen:ps.length=rs.length:=Paired.length ro;have glen:=g.len;have m24:=g.m24;refine ⟨⟨_,SqL.of (s0 _ _ hl)⟩,?_⟩;refine AH (K:=K) (xs:=ps.map V.ref) (fun i σ H2=>Same H H2/\b5a H2 d rs i/\∃ v1 v2 v3 v4,σ=[some (V.ref l),some (V.ref d),v1,v2,v3,v4]) ⟨s0,⟨[],aq,⟨by simp,fun p hp=>nomatch hp⟩,fun a b=>⟨fun i x hi=>absurd hi (nG _),fun _=>rfl⟩⟩,_,_,_,_,rfl⟩ (fun i σ H2 _ z=>SqL.of (z.1 _ _ hl)) ?_ ?_
   . rintro i x σ H2 N hN hx ⟨s2,⟨kvs,hk,⟨hkl,hks⟩,hkv⟩,v1,v2,v3,v4,rfl⟩;obtain ⟨q,r,rfl,h1,h2,h3⟩:=ro.get hx;have hil:i<rs.length:=(aB.mp h2).1;have ok:=g.ok r (bd h2);walk_at "rd";refine ⟨_,SqT.of (s2 _ _ h3),rfl,_,_,rfl,_,_,rfl,_,_,rfl,_,_,rfl,rfl,?_⟩;refine ⟨bn (by simp),fun p1 n1=>⟨_,DPut.t (k:=[.inl r.a,.inl r.b]) (Same.new (.tup [V.int r.a,V.int r.b]) n1 _ _ hk) aq (gk (by omega)),bn (by simp),fun p2 n2=>?_⟩⟩;have l1:=tD kvs [Sum.inl r.a,Sum.inl r.b] (V.int r.t);have np2:d≠p2:=fun z=>by rw [<- z,aq] at n2;cases n2
     refine ⟨_,DPut.t (k:=[.inl r.b,.inl r.a]) (by rw [aR np2];exact aq) aq (gk (by omega)),hN _ _ ⟨?_,⟨_,aq,?_,?_⟩,_,_,_,_,rfl⟩⟩
     . intro b o hb;have nd:b≠d:=dc hb hd;have b2:=s2 _ _ hb;have nb1:b≠p1:=dc b2 n1;have b3:upd (upd H2 p1 (.tup [V.int r.a,V.int r.b])) d (.dT (jE kvs [Sum.inl r.a,Sum.inl r.b] (V.int r.t))) b=some o:=(by rw [aR nd,aR nb1];exact b2);rw [aR nd,aR (dc b3 n2)];exact b3
     . have l2:=tD (jE kvs [Sum.inl r.a,Sum.inl r.b] (V.int r.t)) [Sum.inl r.b,Sum.inl r.a] (V.int r.u);refine ⟨by omega,fun p hp=>?_⟩;rcases Pl hp with e|⟨q,hq,e⟩
       . exact ⟨_,_,e⟩
       rcases Pl hq with e'|⟨q',hq',e'⟩
       . exact ⟨_,_,e.trans e'⟩
       . obtain ⟨a',b',e2⟩:=hks q' hq';exact ⟨a',b',e.trans (e'.trans e2)⟩
     . intro a' b';have v2:iH (jE (jE kvs [Sum.inl r.a,Sum.inl r.b] (V.int r.t)) [Sum.inl r.b,Sum.inl r.a] (V.int r.u)) [Sum.inl a',Sum.inl b']=if a'=r.b/\b'=r.a then some (V.int r.u) else if a'=r.a/\b'=r.b then some (V.int r.t) else iH kvs [Sum.inl a',Sum.inl b']:=by
         rw [PM,PM];simp
       rw [v2];have away:¬ uQ r a' b'->(if a'=r.b/\b'=r.a then some (V.int r.u) else if a'=r.a/\b'=r.b then some (V.int r.t) else iH kvs [Sum.inl a',Sum.inl b'])=iH kvs [Sum.inl a',Sum.inl b']:=fun z=>by
         rw [aj (fun w=>z (.inr ⟨w.1.symm,w.2.symm⟩)),aj (fun w=>z (.inl ⟨w.1.symm,w.2.symm⟩))]
       constructor
       . intro j x hj hy jx;by_cases e:j=i
         . subst e;rw [h2] at hy;cases hy;rcases jx with ⟨w1,w2⟩|⟨w1,w2⟩
           . subst w1 w2;rw [aj (fun z=>ok.ne z.1),am ⟨rfl,rfl⟩,Y6 ok.ne]
             rfl
           . subst w1 w2;rw [am ⟨rfl,rfl⟩,Y2 ok.ne]
             rfl
         . rw [away fun w=>e (MB g hy h2 jx w)];exact (hkv a' b').1 j x (by omega) hy jx
       . intro z;rw [away (z i r (by omega) h2)];exact (hkv a' b').2 fun j x hj hx=>z j x (by omega) hx
   . rintro σ H2 ⟨s2,⟨kvs,hk,⟨hkl,hks⟩,hkv⟩,v1,v2,v3,v4,rfl⟩;rw [ak,hlen] at hkv;walk_at "rd";refine k d H2 hd s2 ⟨⟨kvs,hk,fun a b=>?_⟩,⟨kvs,hk,by rw [ak,hlen] at hkl;exact hkl,hks⟩⟩;by_cases z:∃ (i:Nat) (x:Road),rs[i]?=some x/\uQ x a b
     . obtain ⟨i,x,hi,j⟩:=z;rw [(hkv a b).1 i x (aB.mp hi).1 hi j,Ak g hi j]
     . rw [(hkv a b).2 fun i x _ hi j=>z ⟨i,x,hi,j⟩,VY]
       . rfl
       . rintro ⟨x,hx,j⟩;obtain ⟨i,hi⟩:=cG hx;exact z ⟨i,x,hi,j⟩
theorem Pe (c i:Int) (i0:0<=i) (i1:i<=1000):CMul 7919 i/\CMul (c % 998244353+7919*i+11) 48271/\CMul ((c % 998244353+7919*i+11)*48271 % 2147483647) ((c % 998244353+7919*i+11)*48271 % 2147483647)/\CMul (((c % 998244353+7919*i+11)*48271 % 2147483647)*((c % 998244353+7919*i+11)*48271 % 2147483647) % 2147483629) (((c % 998244353+7919*i+11)*48271 % 2147483647)*((c % 998244353+7919*i+11)*48271 % 2147483647) % 2147483629)/\CMul ((((c % 998244353+7919*i+11)*48271 % 2147483647)*((c % 998244353+7919*i+11)*48271 % 2147483647) % 2147483629)*(((c % 998244353+7919*i+11)*48271 % 2147483647)*((c % 998244353+7919*i+11)*48271 % 2147483647) % 2147483629)) (((c % 998244353+7919*i+11)*48271 % 2147483647)+12345678901)/\dna ((((c % 998244353+7919*i+11)*48271 % 2147483647)*((c % 998244353+7919*i+11)*48271 % 2147483647) % 2147483629)*(((c % 998244353+7919*i+11)*48271 % 2147483647)*((c % 998244353+7919*i+11)*48271 % 2147483647) % 2147483629)*(((c % 998244353+7919*i+11)*48271 % 2147483647)+12345678901)) 7/\0<=(((c % 998244353+7919*i+11)*48271 % 2147483647)*((c % 998244353+7919*i+11)*48271 % 2147483647) % 2147483629)*(((c % 998244353+7919*i+11)*48271 % 2147483647)*((c % 998244353+7919*i+11)*48271 % 2147483647) % 2147483629)*(((c % 998244353+7919*i+11)*48271 % 2147483647)+12345678901) / 7:=by
 have h3:=bx ((c % 998244353+7919*i+11)*48271) (show (2147483647:Int)≠0 by decide);have h4:=bC ((c % 998244353+7919*i+11)*48271) (show (0:Int)<2147483647 by decide);generalize (c % 998244353+7919*i+11)*48271 % 2147483647=n at h3 h4 ⊢;have h5:=bx (n*n) (show (2147483629:Int)≠0 by decide);have h6:=bC (n*n) (show (0:Int)<2147483629 by decide);generalize n*n % 2147483629=f at h5 h6 ⊢;refine ⟨.inl ⟨by decide,by decide⟩,.inr ⟨by decide,by decide⟩,.inl ⟨by omega,by omega⟩,.inl ⟨by omega,by omega⟩,.inr ⟨by omega,by omega⟩,⟨by decide,by decide⟩,?_⟩;exact Int.ediv_nonneg (Int.mul_nonneg (Int.mul_nonneg h5 h5) (by omega)) (by decide)
def lU (T:Txt K mg):Sp:=fun vs H Q _=>∃ (a:Addr) (ns:List Int) (k:Int),vs=[.ref a,.int k]/\SqL K H a (ns.map V.int)/\0<=k/\k<=1000/\∀ v,0<=v->Q (.int v) H
abbrev dj:Stmt:=top 48
theorem oQ:FnScope ["script","k","cell","near","far"] ["script","k"] (ag dj):=FnScope.of (by kernel_rfl)
theorem ml:NmL (ag dj) "script":=.of (by kernel_rfl)
theorem wg:NmL (ag dj) "k":=.of (by kernel_rfl)
theorem kT:NmL (ag dj) "cell":=.of (by kernel_rfl)
theorem ou:NmL (ag dj) "near":=.of (by kernel_rfl)
theorem ud:NmL (ag dj) "far":=.of (by kernel_rfl)
theorem jG:NmG (ag dj) "len":=.of (by kernel_rfl)
theorem PQ (T:Txt K mg) (hq:cr (CXe P w)) {f:Addr} {fd:FuncData} (D:Df K mg "_law_drawn" dj ["script","k"] f fd):FnOk P w K mg base (CXe P w) 1 f fd ["script","k"] (lU T):=by
 refine D.F.okC oQ (fun vs H Q E h=>?_) (fun cdv A outer s H vs Q E hr h=>?_)
 . obtain ⟨a,ns,i,rfl,_⟩:=h
   rfl
 . obtain ⟨a,ns,i,rfl,ha,i0,i1,k⟩:=h;refine ⟨_,(aF (bz (i:=2) oQ.nd rfl (Or.inl kT.l) aH) (aF (eN (cn Ah (pvl 1 wg) (fG fV jG.g T.len oV (ah (pvl 0 ml) ax) (hn:=jG.n) (hdb:=jG.d)) (b7 _)) (aN (bz (i:=2) oQ.nd rfl (Or.inl kT.l) (aX dU (bu b9 (pvl 0 ml) (pvl 1 wg) (fun _ _=>rfl)) (aX tF aH aH)))) cU) (aF (eN (PW.pt (rK (cn KI (fG fV jG.g T.len oV (ah (pvl 0 ml) ax) (hn:=jG.n) (hdb:=jG.d)) aH (b7 _)) (rZ (cn oB (aX dU (bu b9 (pvl 0 ml) aH (fun _ _=>rfl)) aH) aH (b7 _))))) (aF (bz (i:=3) oQ.nd rfl (Or.inl ou.l) (aX dU (aX qU (aX jt (aX jt (aX dU (pvl 2 kT) aH) (aX qU aH (pvl 1 wg))) aH) aH) aH)) (aF (bz (i:=4) oQ.nd rfl (Or.inl ud.l) (aX dU (aX qU (pvl 3 ou) (pvl 3 ou)) aH)) (aN (bz (i:=2) oQ.nd rfl (Or.inl kT.l) (aX gO (aX qU (aX qU (pvl 4 ud) (pvl 4 ud)) (aX jt (pvl 3 ou) aH)) aH))))) cU) (aN (b5 (pvl 2 kT)))))),?_⟩;rw [show L2.start ["script","k","cell","near","far"] [V.ref a,V.int i]=[some (V.ref a),some (V.int i),none,none,none] from rfl];walk_at "rd";refine ⟨_,.inl ha,?_⟩;rw [ak];by_cases z:i<(ns.length:Int)
   . rw [am z];refine ixS ha (atG i0 z) ⟨⟨by decide,by decide,by decide⟩,_,rfl,p60,?_⟩;have c0:=bx (ns.getD i.toNat 0) (qY p60);generalize ns.getD i.toNat 0 % 10^Int.toNat 60=c at c0 ⊢;obtain ⟨h1,h2,h3,h4,h5,h6,h7⟩:=Pe c i i0 i1;refine ⟨_,.inl ha,?_⟩;rw [ak,am (by omega)];refine ixS ha (atG (by decide) (by omega)) ⟨_,rfl,by decide,?_⟩;by_cases y:ns.getD (0:Int).toNat 0 % 2=1
     . rw [am y];exact ⟨by decide,h1,h2,by decide,h3,by decide,h4,h5,h6,k _ h7⟩
     . rw [aj y];exact k _ c0
   . rw [aj z];obtain ⟨h1,h2,h3,h4,h5,h6,h7⟩:=Pe 0 i i0 i1;refine ⟨_,.inl ha,?_⟩;rw [ak];by_cases x:0<(ns.length:Int)
     . rw [am x];refine ixS ha (atG (by decide) x) ⟨_,rfl,by decide,?_⟩;by_cases y:ns.getD (0:Int).toNat 0 % 2=1
       . rw [am y];exact ⟨by decide,h1,h2,by decide,h3,by decide,h4,h5,h6,k _ h7⟩
       . rw [aj y];exact k 0 (by decide)
     . rw [aj x];exact k 0 (by decide)
def Ft (T:Txt K mg):Sp:=fun vs H Q _=>∃ (a:Addr) (ns:List Int),vs=[.ref a]/\SqL K H a (ns.map V.int)/\∀ b H',1<=b->Same H H'->Q (.int b) H'
abbrev ig:Stmt:=top 54
theorem FN:FnScope ["script","head"] ["script"] (ag ig):=FnScope.of (by kernel_rfl)
theorem EE:NmL (ag ig) "script":=.of (by kernel_rfl)
theorem xI:NmL (ag ig) "head":=.of (by kernel_rfl)
theorem tm:NmG (ag ig) "_law_drawn":=.of (by kernel_rfl)
theorem OX (T:Txt K mg) (hq:cr (CXe P w)) {f:Addr} {fd:FuncData} (D:Df K mg "_law_bound" ig ["script"] f fd) {cL:Addr} {dC:FuncData} (bc:Df K mg "_law_drawn" dj ["script","k"] cL dC) (cx:FnOk P w K mg base (CXe P w) 1 cL dC ["script","k"] (lU T)):FnOk P w K mg base (CXe P w) 2 f fd ["script"] (Ft T):=by
 refine D.F.okC FN (fun vs H Q E h=>?_) (fun cdv A outer s H vs Q E hr h=>?_)
 . obtain ⟨a,ns,rfl,_⟩:=h
   rfl
 . obtain ⟨a,ns,rfl,ha,k⟩:=h;refine ⟨_,(aF (bz (i:=1) FN.nd rfl (Or.inl xI.l) (aX gO (aZ cx (hr.mono (by decide)) tm.g bc.m bc.F.kp bc.b .nil (cJ hq) (ah (pvl 0 EE) (ah aH ax)) (hdb:=tm.d)) aH)) (aN (b5 (bu b9 (eE (ah aH (ah aH (ah aH (ah (aX tF aH aH) ax))))) (aX dU (pvl 1 xI) aH) (fun _ _=>rfl))))),?_⟩;rw [show L2.start ["script","head"] [V.ref a]=[some (V.ref a),none] from rfl];walk_at "rd";refine ⟨a,ns,0,rfl,ha,by decide,by decide,fun c c0=>⟨c,rfl,⟨by decide,by decide⟩,⟨by decide,by decide,by decide⟩,bn (by simp),fun q nq=>⟨by decide,?_⟩⟩⟩;have h1:=bx (c / 1200) (show (4:Int)≠0 by decide);have h2:=bC (c / 1200) (show (0:Int)<4 by decide);generalize c / 1200 % 4=j at h1 h2 ⊢;rcases (show j=0\/j=1\/j=2\/j=3 by omega) with z|z|z|z
   . rw [z];exact ixL aq rfl (k _ _ (by decide) (Same.new _ nq))
   . rw [z];exact ixL aq rfl (k _ _ (by decide) (Same.new _ nq))
   . rw [z];exact ixL aq rfl (k _ _ (by decide) (Same.new _ nq))
   . rw [z];exact ixL aq rfl (k _ _ p60 (Same.new _ nq))
def Ek (T:Txt K mg):Sp:=fun vs H Q _=>∃ (b:Addr) (ys:List Int) (v:V),vs=[v,.ref b]/\H b=some (.lst (ys.map V.int))/\ys.length<=1000 /\
 ((v=.non/\Q (.bl false) H)\/∃ (a:Addr) (xs:List Int),v=.ref a/\H a=some (.lst (xs.map V.int))/\xs.length=ys.length/\∀ H',Same H H'->Q (.bl (cvL xs ys)) H')
abbrev eU:Stmt:=top 59
theorem NV:FnScope ["held","wish"] ["held","wish"] (ag eU):=FnScope.of (by kernel_rfl)
theorem Gc:NmC (ag eU) "held":=.of (by kernel_rfl)
theorem E5:NmC (ag eU) "wish":=.of (by kernel_rfl)
theorem sj:NmG (ag eU) "all":=.of (by kernel_rfl)
theorem EA:NmG (ag eU) "range":=.of (by kernel_rfl)
theorem su:NmG (ag eU) "len":=.of (by kernel_rfl)
theorem NY (T:Txt K mg) (hq:cr (CXe P w)) {f:Addr} {fd:FuncData} (D:Df K mg "_law_covers" eU ["held","wish"] f fd):FnOk P w K mg base (CXe P w) 1 f fd ["held","wish"] (Ek T):=by
 refine D.F.okC NV (fun vs H Q E h=>?_) (fun cdv A outer s H vs Q E hr h=>?_)
 . obtain ⟨b,ys,v,rfl,_⟩:=h
   rfl
 . obtain ⟨b,ys,v,rfl,hb,yl,hv⟩:=h;refine ⟨_,(aN (b5 (zz (d9a (Cj (pvc 0 Gc))) (BT (fG (JK rfl) sj.g T.all Pp (ah (wf rfl (wu (Nc:=["place","held","wish"]) 1 [0,1] (by decide +kernel) rfl (by decide +kernel) rfl (by show ∀ (y:Str × NameKind),y∈_->y.2=NameKind.free->(ag eU).names.lookup y.1=some NameKind.cell;decide +kernel) rfl (fun _ h=>pJ h) (fun i hi=>match i,hi with|0,_=>⟨"held",0,rfl,rfl,rfl,by decide +kernel⟩|1,_=>⟨"wish",1,rfl,rfl,rfl,by decide +kernel⟩|i+2,hi=>absurd hi (by show ¬ i+2<2;omega))) (uM EA.g T.range (ah (fG fV su.g T.len oV (ah (pvc 1 E5) ax) (hn:=su.n) (hdb:=su.d)) ax)) (fun _ _ _ _=>(bE (i:=0) (show (["place","held","wish"]:List Str).Nodup from by decide +kernel) rfl (Or.inl rfl))) (fun _ _ _ _=>uK) (fun _ _ _ _=>(mP yc (bu (Dh K rfl) (pv 1) (pv 0) (fun _ _=>rfl)) (bu (Dh K rfl) (pv 2) (pv 0) (fun _ _=>rfl)) (b7 _)))) ax) (hn:=sj.n) (hdb:=sj.d)))))),?_⟩;rw [show L2.start ["held","wish"] [v,V.ref b]=[some v,some (V.ref b)] from rfl];walk_at "rd";rcases hv with ⟨rfl,k⟩|⟨a,xs,rfl,ha,xl,k⟩
   . rw [aj (fun z=>z rfl)];exact k
   . rw [am (by simp)];refine ⟨_,.inl (SqL.of hb),?_⟩;rw [ak];refine ⟨by omega,by omega,fun pc nc=>?_⟩;refine vh (fun i zs σ H3=>Same H H3/\H3 pc=some (.lst zs)/\zs=((List.range i).map fun i=>decide (ys.getD i 0<=xs.getD i 0)).map V.bl/\∃ v,σ=[v,some (V.ref a),some (V.ref b)]) ⟨Same.new _ nc,aq,rfl,_,rfl⟩ ?_ ?_
     . rintro i zs σ H3 N hN hi ⟨s3,e3,rfl,v,rfl⟩;rw [iE];have i0:(0:Int)<=(i:Int):=(by omega);have ga:=atG (xs:=xs) i0 (by omega);have gb:=atG (xs:=ys) i0 (by omega);rw [bF] at ga gb;walk_at "rd";refine ixL (s3 _ _ ha) ga (ixL (s3 _ _ hb) gb ⟨_,rfl,_,rfl,e3,gk (by simp;omega),hN _ _ _ ⟨s3.put nc _,aq,?_,_,rfl⟩⟩);rw [jQ,aK,aK]
       rfl
     . rintro zs σ H3 ⟨s3,e3,rfl,v,rfl⟩;refine ⟨pc,rfl,_,SqL.of e3,?_⟩;have:=k H3 s3;rw [d6a xl] at this;exact this
def HQ (T:Txt K mg):Sp:=fun vs H Q _=>∃ (dt a s:Addr) (d:Bool) (m:Int) (rs:List Road) (xs:List Int) (qs:List Addr) (ss:List Stp),vs=[.ref dt,.ref a,.ref s]/\TollsAt H dt rs/\Good m rs/\H a=some (.lst (xs.map V.int))/\(xs.length:Int)=m/\AtX d H s (qs.map V.ref)/\StepsAt H qs ss /\
 (yC m rs xs ss->∀ l H',H l=none->Same H H'->H' l=some (.lst ((fM rs xs ss ss.length).map V.int))->Q (.ref l) H')/\(¬ yC m rs xs ss->∀ H',Same H H'->Q .non H')
abbrev fu:Stmt:=top 58
theorem sS:FnScope ["tolls","laying","steps","held","a","b","often"] ["tolls","laying","steps"] (ag fu):=FnScope.of (by kernel_rfl)
theorem sx:NmL (ag fu) "tolls":=.of (by kernel_rfl)
theorem E9:NmL (ag fu) "laying":=.of (by kernel_rfl)
theorem Hh:NmL (ag fu) "steps":=.of (by kernel_rfl)
theorem iz:NmL (ag fu) "held":=.of (by kernel_rfl)
theorem kG:NmL (ag fu) "a":=.of (by kernel_rfl)
theorem mH:NmL (ag fu) "b":=.of (by kernel_rfl)
theorem kP:NmL (ag fu) "often":=.of (by kernel_rfl)
theorem tX:NmG (ag fu) "list":=.of (by kernel_rfl)
theorem Ss (T:Txt K mg) (hq:cr (CXe P w)) {f:Addr} {fd:FuncData} (D:Df K mg "_law_done" fu ["tolls","laying","steps"] f fd):FnOk P w K mg base (CXe P w) 1 f fd ["tolls","laying","steps"] (HQ T):=by
 refine D.F.okC sS (fun vs H Q E h=>?_) (fun cdv A outer s H vs Q E hr h=>?_)
 . obtain ⟨dt,a,s,d,m,rs,xs,qs,ss,rfl,_⟩:=h
   rfl
 . obtain ⟨dt,a,s,d,m,rs,xs,qs,ss,rfl,ta,g,ha,xl,hs,st,k,kn⟩:=h;have hu:=Ar hr;have m24:=g.m24;have ql:qs.length=ss.length:=Paired.length st;refine ⟨_,(aF (bz (i:=3) sS.nd rfl (Or.inl iz.l) (dN lV tX.g T.list vX (ah (pvl 1 E9) ax) (hn:=tX.n) (hdb:=tX.d))) (aF (gB PassesOwn.never rfl (QX d (pvl 2 Hh)) (rf (n:=3) rfl (c7 (bE (i:=4) sS.nd rfl (Or.inl kG.l)) (c7 (bE (i:=5) sS.nd rfl (Or.inl mH.l)) (c7 (bE (i:=6) sS.nd rfl (Or.inl kP.l)) oF)))) (aF (eN (PW.pt (GM (cn Ah (pvl 6 kP) aH (b7 _)) (GM (yN (MY hu (dD (ah (pvl 4 kG) (ah (pvl 5 mH) ax))) (pvl 0 sx))) (Kx (cn Ah (bu b9 (pvl 3 iz) (pvl 4 kG) (fun _ _=>rfl)) (aX qU (pvl 6 kP) (yA hu (pvl 0 sx) (dD (ah (pvl 4 kG) (ah (pvl 5 mH) ax))) (fun _ _=>rfl))) (b7 _)))))) (aN (b5 O1)) cU) (aF (rL (aX pb (bu b9 (pvl 3 iz) (pvl 4 kG) (fun _ _=>rfl)) (aX qU (pvl 6 kP) (yA hu (pvl 0 sx) (dD (ah (pvl 4 kG) (ah (pvl 5 mH) ax))) (fun _ _=>rfl)))) (vf (pvl 3 iz) (pvl 4 kG) kE)) (aN (rL (aX jt (bu b9 (pvl 3 iz) (pvl 5 mH) (fun _ _=>rfl)) (pvl 6 kP)) (vf (pvl 3 iz) (pvl 5 mH) kE)))))) (aN (b5 (pvl 3 iz))))),?_⟩;rw [show L2.start ["tolls","laying","steps","held","a","b","often"] [V.ref dt,V.ref a,V.ref s]=[some (V.ref dt),some (V.ref a),some (V.ref s),none,none,none,none] from rfl];refine ft fun N1 h1=>?_;walk_at "rd";refine ⟨_,.inl (SqL.of ha),fun ln nn=>h1 _ _ (ft fun N2 h2=>?_)⟩;have s1:=Same.new (.lst (xs.map V.int)) nn;have en:upd H ln (.lst (xs.map V.int)) ln=some (.lst (xs.map V.int)):=aq;generalize upd H ln (.lst (xs.map V.int))=H1 at s1 en ⊢;walk_at "rd";have hsX:∀ {H3:Hp},Same H H3->SqX K d H3 s (qs.map V.ref):=fun {H3} s3=>AtX.sq (K:=K) (show AtX d H3 s (qs.map V.ref) from s3 _ _ hs);refine ⟨⟨_,hsX s1⟩,?_⟩;refine YB (K:=K) (c:=d) (xs:=qs.map V.ref) (fun i σ H3=>Same H H3/\i<=ss.length/\(∀ j t,j<i->ss[j]?=some t->mm m rs (fM rs xs ss j) t=true)/\∃ (v4 v5 v6:Option V),H3 ln=some (.lst ((fM rs xs ss i).map V.int))/\σ=[some (V.ref dt),some (V.ref a),some (V.ref s),some (V.ref ln),v4,v5,v6]) ⟨s1,bi _,fun j t h=>absurd h (nG _),_,_,_,by rw [MF];exact en,rfl⟩ (fun i σ H3 _ z=>hsX z.1) ?_ ?_
   . rintro i x σ H3 N hN hx ⟨s3,il,bf,v4,v5,v6,e3,rfl⟩;obtain ⟨q,t,rfl,h1',h2',h3'⟩:=(StepsAt.same s3 st).get hx;have il2:i<ss.length:=(aB.mp h2').1;obtain ⟨u,v,n⟩:=t;have sl:=DM rs xs ss i;have bad:mm m rs (fM rs xs ss i) (u,v,n)=false->∀ H',Same H H'->Q .non H':=fun z=>kn fun ca=>by
       rw [ca i _ h2'] at z;cases z
     walk_at "rd";refine ⟨_,SqT.of h3',rfl,_,_,rfl,_,_,rfl,_,_,rfl,rfl,?_⟩;dsimp only;refine ⟨n,rfl,?_⟩;by_cases c1:n<1
     . rw [am c1];refine bad ?_ H3 s3;unfold mm tI;rw [bZ (show ¬ 1<=(u,v,n).2.2 from by show ¬ 1<=n;omega),qA,ff]
     rw [aj c1];have get:∀ {H4:Hp} {q':Addr},Same H H4->H4 q'=none->DGet (upd H4 q' (.tup [V.int u,V.int v])) dt (V.ref q') ((cS rs u v).map V.int):=fun {H4 q'} s4 nq'=>by
       obtain ⟨kvs,hkv,hv2⟩:=(ta.same s4).ex;have hg:=DGet.t (k:=[.inl u,.inl v]) (Same.new (.tup [V.int u,V.int v]) nq' _ _ hkv) aq;rw [hv2] at hg;exact hg
     refine ⟨bn (by simp),fun q1 n1=>⟨_,get s3 n1,?_⟩⟩;have t1:=Same.new (.tup [V.int u,V.int v]) n1;have s4:=s3.trans t1;have e4:=t1 _ _ e3;change Same H (upd H3 q1 (.tup [V.int u,V.int v])) at s4;show ite _ (Q .non (upd H3 q1 (.tup [V.int u,V.int v]))) _;generalize upd H3 q1 (.tup [V.int u,V.int v])=H4 at s4 e4 ⊢;cases ht:cS rs u v with
     | none =>
       rw [am (by rfl)];exact bad (Ym g ht) H4 s4
     | some kk =>
       rw [ht] at get;rw [aj (by simp)];have ad:Adj rs u v:=Dx.mp (by rw [ht];rfl);obtain ⟨ar,br,nuv⟩:=g.adj ad;obtain ⟨k0,e0,kr⟩:=QJ g ad;rw [ht] at e0;cases e0;have gu:=atG (xs:=fM rs xs ss i) ar.1 (by omega);refine ixL e4 gu ⟨bn (by simp),fun q2 n2=>⟨_,get s4 n2,n,rfl,kk,rfl,.inr ⟨by omega,by omega⟩,_,rfl,?_⟩⟩;have s5:=s4.trans (Same.new (.tup [V.int u,V.int v]) n2);have e5:=Same.new (.tup [V.int u,V.int v]) n2 _ _ e4;show ite _ (Q .non (upd H4 q2 (.tup [V.int u,V.int v]))) _;generalize upd H4 q2 (.tup [V.int u,V.int v])=H5 at s5 e5 ⊢;have cdo:=aCa (m:=m) (xs:=fM rs xs ss i) (s:=(u,v,n)) g ht;by_cases c2:(fM rs xs ss i).getD u.toNat 0<n*kk
       . rw [am c2];refine bad ?_ H5 s5;rw [cdo,bZ (show ¬ kk*(u,v,n).2.2<=(fM rs xs ss i).getD (u,v,n).1.toNat 0 from by show ¬ kk*n<=(fM rs xs ss i).getD u.toNat 0;rw [rn];omega),qA]
       . rw [aj c2];have yes:mm m rs (fM rs xs ss i) (u,v,n)=true:=by
           rw [cdo,bH (show 0<(u,v,n).2.2 from by show 0<n;omega),bH (show kk*(u,v,n).2.2<=(fM rs xs ss i).getD (u,v,n).1.toNat 0 from by show kk*n<=(fM rs xs ss i).getD u.toNat 0;rw [rn];omega)]
           rfl
         have hst:fM rs xs ss (i+1)=((fM rs xs ss i).set u.toNat ((fM rs xs ss i).getD u.toNat 0 - n*kk)).set v.toNat (((fM rs xs ss i).set u.toNat ((fM rs xs ss i).getD u.toNat 0 - n*kk)).getD v.toNat 0+n):=by
           rw [No h2'];unfold Ai tL;rw [ht]
           rfl
         refine ixL e5 gu ⟨bn (by simp),fun q3 n3=>⟨_,get s5 n3,n,rfl,kk,rfl,.inr ⟨by omega,by omega⟩,_,rfl,?_⟩⟩;have s6:=s5.trans (Same.new (.tup [V.int u,V.int v]) n3);have e6:=Same.new (.tup [V.int u,V.int v]) n3 _ _ e5;show rSetL _ _ _ (upd H5 q3 (.tup [V.int u,V.int v])) _;generalize upd H5 q3 (.tup [V.int u,V.int v])=H6 at s6 e6 ⊢;refine Be e6 ar.1 (by rw [ak];omega) ?_;rw [<- dJ];have yl:((fM rs xs ss i).set u.toNat ((fM rs xs ss i).getD u.toNat 0 - n*kk)).length=xs.length:=(by rw [cX];exact sl);generalize (fM rs xs ss i).set u.toNat ((fM rs xs ss i).getD u.toNat 0 - n*kk)=ys at yl hst ⊢;have ey:upd H6 ln (.lst (ys.map V.int)) ln=some (.lst (ys.map V.int)):=aq;refine ixL ey (atG br.1 (by omega)) ⟨_,rfl,n,rfl,Be ey br.1 (by rw [ak];omega) ?_⟩;rw [uC,<- dJ,<- hst];refine hN _ _ ⟨s6.put nn _,il2,fun j t hj ht'=>?_,_,_,_,aq,rfl⟩;by_cases z:j=i
         . subst z;rw [h2'] at ht';cases ht';exact yes
         . exact bf j t (by omega) ht'
   . rintro σ H3 ⟨s3,il,bf,v4,v5,v6,e3,rfl⟩;rw [ak,ql] at bf e3;refine h2 _ _ ?_;walk_at "rd";exact k (fun j t ht=>bf j t (aB.mp ht).1 ht) ln H3 nn s3 e3
def AW (T:Txt K mg):Sp:=fun vs H Q _=>∃ (d:Addr) (rs:List Road) (m r:Int),vs=[.ref d,.int m,.int r]/\TollsAt H d rs/\Good m rs/\(0<=r/\r<m) /\
 ∃ par dep,Rooted m rs r par dep/\∀ lo qs t H',H lo=none->Same H H'->H' lo=some (.lst (qs.map V.ref))->PrsAt H' r par qs (r::t)->Order m r par t->Q (.ref lo) H'
abbrev dX:Stmt:=top 52
theorem nz:FnScope ["tolls","many","r","order","at","place","above","kid"] ["tolls","many","r"] (ag dX):=FnScope.of (by kernel_rfl)
theorem Hm:NmL (ag dX) "tolls":=.of (by kernel_rfl)
theorem JF:NmL (ag dX) "many":=.of (by kernel_rfl)
theorem NZ:NmL (ag dX) "r":=.of (by kernel_rfl)
theorem kU:NmL (ag dX) "order":=.of (by kernel_rfl)
theorem oJ:NmL (ag dX) "at":=.of (by kernel_rfl)
theorem sy:NmL (ag dX) "place":=.of (by kernel_rfl)
theorem xM:NmL (ag dX) "above":=.of (by kernel_rfl)
theorem qI:NmL (ag dX) "kid":=.of (by kernel_rfl)
theorem vd:NmG (ag dX) "len":=.of (by kernel_rfl)
theorem Hw:NmG (ag dX) "range":=.of (by kernel_rfl)
theorem So (T:Txt K mg) (hq:cr (CXe P w)) {f:Addr} {fd:FuncData} (D:Df K mg "_law_down" dX ["tolls","many","r"] f fd):FnOk P w K mg base (CXe P w) 1 f fd ["tolls","many","r"] (AW T):=by
 refine D.F.okC nz (fun vs H Q E h=>?_) (fun cdv A outer s H vs Q E hr h=>?_)
 . obtain ⟨d,rs,m,r,rfl,_⟩:=h
   rfl
 . obtain ⟨d,rs,m,r,rfl,ta,g,rr,par,dep,R,k⟩:=h;have hu:=Ar hr;have m24:=g.m24;refine ⟨_,(aF (bz (i:=3) nz.nd rfl (Or.inl kU.l) (eE (ah (dD (ah (pvl 2 NZ) (ah O1 ax))) ax))) (aF (bz (i:=4) nz.nd rfl (Or.inl oJ.l) aH) (aF (Dv PassesOwn.never (cn Ah (pvl 4 oJ) (fG fV vd.g T.len oV (ah (pvl 3 kU) ax) (hn:=vd.n) (hdb:=vd.d)) (b7 _)) (aF (rL (bu b9 (pvl 3 kU) (pvl 4 oJ) (fun _ _=>rfl)) (rf (n:=2) rfl (c7 (bE (i:=5) nz.nd rfl (Or.inl sy.l)) (c7 (bE (i:=6) nz.nd rfl (Or.inl xM.l)) oF)))) (aF (gB PassesOwn.never rfl (uM Hw.g T.range (ah (pvl 1 JF) ax)) (bE (i:=7) nz.nd rfl (Or.inl qI.l)) (aN (eN (PW.pt (rK (cn yw (pvl 7 qI) (pvl 6 xM) (b7 _)) (rZ (yN (dZa hu (dD (ah (pvl 5 sy) (ah (pvl 7 qI) ax))) (pvl 0 Hm)))))) (aN (dy (ki PySem.F.plainAttrs_list PySem.F.slot_list_append PySem.F.type_list_append eI (pvl 3 kU) (ah (dD (ah (pvl 7 qI) (ah (pvl 5 sy) ax))) ax)))) cU))) (aN (bz (i:=4) nz.nd rfl (Or.inl oJ.l) (aX jt (pvl 4 oJ) aH)))))) (aN (b5 (pvl 3 kU)))))),?_⟩;rw [show L2.start ["tolls","many","r","order","at","place","above","kid"] [V.ref d,V.int m,V.int r]=[some (V.ref d),some (V.int m),some (V.int r),none,none,none,none,none] from rfl];walk_at "rd";refine ⟨bn (by simp),fun q0 n0=>⟨bn (by simp),fun lo nlo=>?_⟩⟩;have s1:=Same.new (.tup [V.int r,V.non]) n0;have nl0:=s1.free nlo;have s2:=s1.trans (Same.new (.lst [V.ref q0]) nlo);have nql:q0≠lo:=fun z=>by rw [<- z,aq] at nlo;cases nlo
   have e2:upd (upd H q0 (.tup [V.int r,V.non])) lo (.lst [V.ref q0]) lo=some (.lst [V.ref q0]):=aq;have f2:upd (upd H q0 (.tup [V.int r,V.non])) lo (.lst [V.ref q0]) q0=some (.tup (vPr r par r)):=by
     rw [aR nql,aq];unfold vPr Pb.front;rw [am rfl]
   generalize upd (upd H q0 (.tup [V.int r,V.non])) lo (.lst [V.ref q0])=H2 at s2 e2 f2 ⊢;have lim:∀ {t:List Int} {ws:List Int},AInv m rs r par t ws->(r::t).length<=m.toNat:=fun {t ws} J=>by
     have:=gX (m:=m) (by omega) (ba.mpr ⟨J.nr,J.nd⟩) fun v hv=>by
       rcases az.mp hv with e|e
       . rw [e];exact rr
       . exact J.rng v e
     omega
   refine LC (fun n σ H4=>∃ (t:List Int) (qs:List Addr) (k:Nat) (v5 v6 v7:Option V),n=m.toNat - k/\k<=(r::t).length/\σ=[some (.ref d),some (.int m),some (.int r),some (.ref lo),some (.int (k:Nat)),v5,v6,v7]/\Same H H4/\H4 lo=some (.lst (qs.map V.ref))/\PrsAt H4 r par qs (r::t)/\Bfs m rs r par t k) m.toNat ⟨[],[q0],0,_,_,_,rfl,bi _,rfl,s2,e2,.cons f2 .nil,Bfs.start⟩ ?_;rintro n σ H4 NW hN hN2 ⟨t,qs,kk,v5,v6,v7,rfl,kle,rfl,s4,ho,pa,S⟩;have tl:=lim S.J;have ql:qs.length=(r::t).length:=Paired.length pa;walk_at "rd";refine ⟨_,.inl (SqL.of ho),?_⟩;rw [ak,ql];by_cases c:kk=(r::t).length
   . rw [aj (by omega)];exact k lo qs t H4 nl0 s4 ho pa (S.done R (by omega))
   . rw [am (by omega)];have klt:kk<(r::t).length:=(by omega);obtain ⟨p,hp⟩:∃ p,(r::t)[kk]?=some p:=⟨_,aD klt⟩;have S':=S.step g R rr.1 rr.2 hp;have tl':=lim S'.J;have pr:0<=p/\p<m:=by
       rcases az.mp (bd hp) with e|e
       . rw [e];exact rr
       . exact S.J.rng p e
     refine ⟨NW,fun σ' H' z=>?_,?_⟩
     . obtain ⟨m',lt,t',qs',k',a5,a6,a7,e1,e2,e3⟩:=hN2 _ _ z;exact ⟨m',lt,t',qs',k',e1,e2,a5,a6,a7,e3⟩
     obtain ⟨qx,hqx⟩:∃ qx,qs[kk]?=some qx:=⟨_,aD (by omega)⟩;obtain ⟨qp,pv,e1,e2,e3,e4⟩:=pa.get (i:=kk) (x:=.ref qx) (by rw [aU,hqx];rfl);injection e1 with e1
     subst e1;rw [hp] at e3;cases e3;refine ixL ho (Mc (by rw [aU,hqx];rfl)) ⟨qx,rfl,_,SqT.of e4,rfl,_,_,rfl,_,_,rfl,rfl,by omega,by omega,?_⟩;have mk:∀ v,v∈dA m rs (Pb.front r par p) p->(0<=v/\v<m)/\v≠r/\par v=p:=fun v=>(nB g R pr.1 pr.2).mp;have inK:∀ i:Nat,i<m.toNat->(cS rs p (i:Int)).isSome=true->V.int (i:Int)≠Pb.front r par p->(i:Int)∈dA m rs (Pb.front r par p) p:=fun i hi h1 h2=>by
       rw [<- Kf];unfold nj;exact d9.mpr ⟨d9.mpr ⟨j4.mpr ⟨by omega,by omega⟩,h1⟩,bH h2⟩
     have ktl:∀ i:Nat,i<=m.toNat->(nj rs (Pb.front r par p) p i).length<=24:=fun i hi=>by
       unfold nj;refine bP (gU _ _) (bP (gU _ _) ?_);rw [eD];omega
     have fvs:∀ i:Int,Ba (.int i) (Pb.front r par p)=true:=fun i=>by
       unfold Pb.front;by_cases z:p=r
       . rw [am z];rfl
       . rw [aj z];rfl
     rw [<- Kf] at S' tl';refine yj (fun i σ H5=>Same H H5/\∃ (qs:List Addr) (v7:Option V),H5 lo=some (.lst (qs.map V.ref))/\PrsAt H5 r par qs (r::(t++nj rs (Pb.front r par p) p i))/\σ=[some (.ref d),some (.int m),some (.int r),some (.ref lo),some (.int (kk:Nat)),some (.int p),some (Pb.front r par p),v7]) ⟨s4,qs,_,ho,by rw [show nj rs (Pb.front r par p) p 0=[] from rfl,bG];exact pa,rfl⟩ ?_ ?_
     . rintro i σ H5 N hN hi ⟨s5,qs,v7,ho,pa,rfl⟩;rw [iE];have kl:=ktl i (by omega);have ql:qs.length=(r::(t++nj rs (Pb.front r par p) p i)).length:=Paired.length pa;rw [aQ,au] at ql;rw [aQ] at tl;walk_at "rd";refine ⟨fvs _,?_⟩;by_cases c1:V.int (i:Int)=Pb.front r par p
       . rw [aj (fun z=>z c1)];exact hN _ _ ⟨s5,qs,_,ho,by rw [Kh (fun _ z=>z c1)];exact pa,rfl⟩
       . rw [am c1];refine ⟨bn (by simp),fun q nq=>?_⟩;have s6:=Same.new (.tup [V.int p,V.int (i:Int)]) nq;obtain ⟨kvs,hkv,hv⟩:=(ta.same s5).ex;have hg:=DGet.t (k:=[.inl p,.inl (i:Int)]) (s6 _ _ hkv) aq;rw [hv] at hg;refine ⟨_,hg,?_⟩;by_cases c2:(cS rs p (i:Int)).isSome=true
         . rw [am (by rw [gL];exact c2)];obtain ⟨_,kr,kp⟩:=mk _ (inK i hi c2 c1);refine ⟨tyL (s6 _ _ ho),bn (by simp),fun q' nq'=>?_⟩;have s7:=s6.trans (Same.new (.tup [V.int (i:Int),V.int p]) nq');have ho7:=s7 _ _ ho;have nqo:q'≠lo:=fun z=>by rw [z,s6 _ _ ho] at nq';cases nq'
           refine uY ho7 (gk (by rw [ak];omega)) (hN _ _ ⟨(s5.trans s7).put nl0 _,qs++[q'],_,by rw [aq,aK];rfl,?_,rfl⟩);rw [U5 c2 c1,<- cq,<- nR];refine PrsAt.snoc ?_ (Paired.imp' (fun a b h=>by rw [aR (lA (s7 _ _ h) ho7 (by intro z;cases z))];exact s7 _ _ h) pa);rw [aR nqo,aq];unfold vPr Pb.front;rw [aj kr,kp]
         . rw [aj (by rw [gL];exact c2)];exact hN _ _ ⟨s5.trans s6,qs,_,s6 _ _ ho,by rw [Kh (fun z=>absurd z c2)];exact PrsAt.same s6 pa,rfl⟩
     . rintro σ H5 ⟨s5,qs,v7,ho,pa,rfl⟩;walk_at "rd";exact hN (m.toNat - (kk+1)) _ _ (by omega) ⟨_,qs,kk+1,_,_,_,rfl,by rw [aQ,au];rw [aQ] at klt;omega,rfl,s5,ho,pa,S'⟩
def pF (T:Txt K mg):Sp:=fun vs H Q _=>∃ (dt a b:Addr) (c d:Bool) (rs:List Road) (xs ys:List Int) (m r:Int),vs=[.ref dt,.int m,.ref a,.ref b,.int r]/\TollsAt H dt rs/\Good m rs/\SqX K c H a (xs.map V.int)/\(xs.length:Int)=m/\SqX K d H b (ys.map V.int)/\(ys.length:Int)=m/\(0<=r/\r<m) /\
 ∃ par dep,Rooted m rs r par dep/\∀ l H',H l=none->Same H H'->H' l=some (.lst ((sF m rs r par dep (fun v=>(jg m xs ys).getD v.toNat 0) (hnd rs par)).map V.int))->Q (.ref l) H'
abbrev bO:Stmt:=top 53
theorem pD:FnScope ["tolls","many","laying","wish","r","found","place","above"] ["tolls","many","laying","wish","r"] (ag bO):=FnScope.of (by kernel_rfl)
theorem nS:NmL (ag bO) "tolls":=.of (by kernel_rfl)
theorem uO:NmL (ag bO) "many":=.of (by kernel_rfl)
theorem RJ:NmC (ag bO) "laying":=.of (by kernel_rfl)
theorem TF:NmC (ag bO) "wish":=.of (by kernel_rfl)
theorem Fx:NmL (ag bO) "r":=.of (by kernel_rfl)
theorem di:NmL (ag bO) "found":=.of (by kernel_rfl)
theorem f8:NmL (ag bO) "place":=.of (by kernel_rfl)
theorem dh:NmL (ag bO) "above":=.of (by kernel_rfl)
theorem AZ:NmG (ag bO) "range":=.of (by kernel_rfl)
theorem yk:NmG (ag bO) "reversed":=.of (by kernel_rfl)
theorem qJ:NmG (ag bO) "_law_down":=.of (by kernel_rfl)
theorem JB (T:Txt K mg) (hq:cr (CXe P w)) {f:Addr} {fd:FuncData} (D:Df K mg "_law_standings" bO ["tolls","many","laying","wish","r"] f fd) {jR:Addr} {sM:FuncData} (iT:Df K mg "_law_down" dX ["tolls","many","r"] jR sM) (r9:FnOk P w K mg base (CXe P w) 1 jR sM ["tolls","many","r"] (AW T)):FnOk P w K mg base (CXe P w) 2 f fd ["tolls","many","laying","wish","r"] (pF T):=by
 refine D.F.okC pD (fun vs H Q E h=>?_) (fun cdv A outer s H vs Q E hr h=>?_)
 . obtain ⟨dt,a,b,c,d,rs,xs,ys,m,r,rfl,_⟩:=h
   rfl
 . obtain ⟨dt,a,b,c,d,rs,xs,ys,m,r,rfl,ta,g,ha,xl,hb,yl,rr,par,dep,R,k⟩:=h;have hu:=Ar hr;have m1:=g.m1;have m24:=g.m24;refine ⟨_,(aF (Db (i:=5) pD.nd rfl di.l rfl (wu (Nc:=["place","laying","wish"]) 1 [2,3] (by decide +kernel) rfl (by decide +kernel) rfl (by show ∀ (y:Str × NameKind),y∈_->y.2=NameKind.free->(ag bO).names.lookup y.1=some NameKind.cell;decide +kernel) rfl (fun _ h=>pJ h) (fun i hi=>match i,hi with|0,_=>⟨"laying",2,rfl,rfl,rfl,by decide +kernel⟩|1,_=>⟨"wish",3,rfl,rfl,rfl,by decide +kernel⟩|i+2,hi=>absurd hi (by show ¬ i+2<2;omega))) (uM AZ.g T.range (ah (pvl 1 uO) ax)) (fun _ _ _ _=>(bE (i:=0) (show (["place","laying","wish"]:List Str).Nodup from by decide +kernel) rfl (Or.inl rfl))) (fun _ _ _ _=>uK) (fun _ _ _ _=>(aX pb (bu (Tm c K rfl) (pv 1) (pv 0) (fun _ _=>rfl)) (bu (Tm d K rfl) (pv 2) (pv 0) (fun _ _=>rfl))))) (aF (gB PassesOwn.never rfl (J0 yk.g T.reversed (aZ r9 (hr.mono (by decide)) qJ.g iT.m iT.F.kp iT.b .nil (cJ hq) (ah (pvl 0 nS) (ah (pvl 1 uO) (ah (pvl 4 Fx) ax))) (hdb:=qJ.d))) (rf (n:=2) rfl (c7 (bE (i:=6) pD.nd rfl (Or.inl f8.l)) (c7 (bE (i:=7) pD.nd rfl (Or.inl dh.l)) oF))) (aN (eN (PW.pt (rK (yN (Cj (pvl 7 dh))) (rZ (cn yc (bu b9 (pvl 5 di) (pvl 6 f8) (fun _ _=>rfl)) aH (b7 _))))) (aN (rL (aX jt (bu b9 (pvl 5 di) (pvl 7 dh) (fun _ _=>rfl)) (aX gO (bu b9 (pvl 5 di) (pvl 6 f8) (fun _ _=>rfl)) (yA hu (pvl 0 nS) (dD (ah (pvl 6 f8) (ah (pvl 7 dh) ax))) (fun _ _=>rfl)))) (vf (pvl 5 di) (pvl 7 dh) kE))) (aN (eN (yN (Cj (pvl 7 dh))) (aN (rL (aX jt (bu b9 (pvl 5 di) (pvl 7 dh) (fun _ _=>rfl)) (aX qU (bu b9 (pvl 5 di) (pvl 6 f8) (fun _ _=>rfl)) (yA hu (pvl 0 nS) (dD (ah (pvl 7 dh) (ah (pvl 6 f8) ax))) (fun _ _=>rfl)))) (vf (pvl 5 di) (pvl 7 dh) kE))) cU))))) (aN (b5 (pvl 5 di))))),?_⟩;rw [show L2.start ["tolls","many","laying","wish","r","found","place","above"] [V.ref dt,V.int m,V.ref a,V.ref b,V.int r]=[some (V.ref dt),some (V.int m),some (V.ref a),some (V.ref b),some (V.int r),none,none,none] from rfl];walk_at "rd";refine ⟨by omega,by omega,fun lo no=>?_⟩;refine vh (fun i zs σ H3=>Same H H3/\H3 lo=some (.lst zs)/\zs=((List.range i).map fun i=>xs.getD i 0 - ys.getD i 0).map V.int/\∃ v,σ=[v,some (V.ref a),some (V.ref b)]) ⟨Same.new _ no,aq,rfl,_,rfl⟩ ?_ ?_
   . rintro i zs σ H3 N hN hi ⟨s3,e3',rfl,v,rfl⟩;rw [iE];have i0:(0:Int)<=(i:Int):=(by omega);have ga:=atG (xs:=xs) i0 (by omega);have gb:=atG (xs:=ys) i0 (by omega);rw [bF] at ga gb;walk_at "rd";refine ixX (Same.sqX s3 ha) ga (ixX (Same.sqX s3 hb) gb ⟨_,rfl,_,rfl,e3',gk (by simp;omega),hN _ _ _ ⟨s3.put no _,aq,?_,_,rfl⟩⟩);rw [jQ,aK,aK]
     rfl
   . rintro zs σ H3 ⟨s3,e3',rfl,v,rfl⟩;have ol:=MG (m:=m) (by omega) xs ys;change H3 lo=some (.lst ((jg m xs ys).map V.int)) at e3';refine ⟨dt,rs,m,r,rfl,ta.same s3,g,rr,par,dep,R,fun lq qs t H4 nq s4 eq pa O=>?_⟩;have nqo:lq≠lo:=fun z=>by rw [z,e3'] at nq;cases nq
     have s34:=s3.trans s4;have ql:qs.length=(r::t).length:=Paired.length pa;refine ⟨lq,rfl,_,SqL.of eq,?_⟩;refine Jy (K:=K) (xs:=qs.map V.ref) (fun i σ H5=>Same H H5/\H5 lq=some (.lst (qs.map V.ref))/\PrsAt H5 r par qs (r::t)/\∃ (cs:List Int) (v6 v7:Option V),H5 lo=some (.lst (cs.map V.int))/\Sofar m rs r par dep (fun v=>(jg m xs ys).getD v.toNat 0) (hnd rs par) (t.drop (t.length - i)) cs/\σ=[some (V.ref dt),some (V.int m),some (V.ref a),some (V.ref b),some (V.int r),some (V.ref lo),v6,v7]) ⟨s34,eq,pa,jg m xs ys,_,_,s4 _ _ e3',by rw [qG,nU];exact Sofar.nil ol,rfl⟩ (fun i σ H5 _ z=>SqL.of z.2.1) ?_ ?_
     . rintro i x σ H5 N hN hx ⟨s5,q5,pa5,cs,v6,v7,c5,so,rfl⟩;have il:=(aB.mp hx).1;rw [bj,ak,ql,aQ] at il;rw [dz (by rw [ak,ql,aQ];omega),ak,ql] at hx;obtain ⟨q,v,rfl,hq,hv,e5⟩:=pa5.get hx;have hv':(r::t).reverse[i]?=some v:=(by rw [dz (by rw [aQ];omega)];exact hv);rw [fH] at hv';have cl:=so.len;walk_at "rd";refine ⟨_,SqT.of e5,rfl,_,_,rfl,_,_,rfl,rfl,?_⟩;walk_at "rd";by_cases ci:i<t.length
       . rw [eJ (by rw [bj];exact ci)] at hv';obtain ⟨⟨vr,vn⟩,ev,so'⟩:=O.turn g R so hv';have u:=R.up v vr.1 vr.2 vn;obtain ⟨kk,hk,k0,k1⟩:=LY g R vr.1 vr.2 vn;obtain ⟨kd,hd,d0,d1⟩:=TD g R vr.1 vr.2 vn;have fv:Pb.front r par v=V.int (par v):=(by unfold Pb.front;rw [aj vn]);rw [fv];have nn:¬ V.int (par v)=V.non:=(by intro z;cases z);have gv:=atG (xs:=cs) vr.1 (by omega);have gu:=atG (xs:=cs) u.1.1 (by omega);have get:∀ (x y kx:Int) (q':Addr),cS rs x y=some kx->H5 q'=none->DGet (upd H5 q' (.tup [V.int x,V.int y])) dt (V.ref q') (some (V.int kx)):=fun x y kx q' hx nq'=>by
           obtain ⟨kvs,hkv,hv2⟩:=(ta.same s5).ex;have hg:=DGet.t (k:=[.inl x,.inl y]) (Same.new (.tup [V.int x,V.int y]) nq' _ _ hkv) aq;rw [hv2,hx] at hg;exact hg
         have fin:∀ (w:Int) (q':Addr) (o:List V),H5 q'=none->w=cs.getD (par v).toNat 0+hnd rs par v (cs.getD v.toNat 0)->rSetL (V.ref lo) (V.int (par v)) (V.int w) (upd H5 q' (.tup o)) fun H3=>N [some (V.ref dt),some (V.int m),some (V.ref a),some (V.ref b),some (V.int r),some (V.ref lo),some (V.int v),some (V.int (par v))] H3:=fun w q' o nq' hw=>by
           have s6:=Same.new (.tup o) nq';refine Be (s6 _ _ c5) u.1.1 (by rw [ak];omega) (hN _ _ ⟨(s5.trans s6).put no _,?_,?_,DR par (hnd rs par) cs v,_,_,?_,so',rfl⟩)
           . rw [aR nqo];exact s6 _ _ q5
           . exact Paired.imp' (fun a b h=>by rw [aR (lA (s6 _ _ h) (s6 _ _ c5) (by intro z;cases z))];exact s6 _ _ h) pa5
           . rw [aq,<- dJ,hw]
             rfl
         rw [am nn];refine ixL c5 gv ⟨_,rfl,?_⟩;by_cases cp:0<=cs.getD v.toNat 0
         . rw [am cp];refine ixL c5 gu (ixL c5 gv ⟨bn (by simp),fun q' nq'=>⟨_,get v (par v) kk q' hk nq',_,rfl,_,rfl,⟨by omega,by omega⟩,_,rfl,fin _ q' _ nq' ?_⟩⟩);unfold hnd;rw [am cp,hk]
           rfl
         . rw [aj cp,am nn];refine ixL c5 gu (ixL c5 gv ⟨bn (by simp),fun q' nq'=>⟨_,get (par v) v kd q' hd nq',_,rfl,_,rfl,.inr ⟨by omega,by omega⟩,_,rfl,fin _ q' _ nq' ?_⟩⟩);unfold hnd;rw [aj cp,hd]
           rfl
       . have ei:i=t.reverse.length:=(by rw [bj];omega);rw [ei,eC (aA _),mq] at hv';cases hv';have fv:Pb.front r par r=V.non:=(by unfold Pb.front;rw [am rfl]);rw [fv];rw [aj (fun z=>z rfl),aj (fun z=>z rfl)];refine hN _ _ ⟨s5,q5,pa5,cs,_,_,c5,?_,rfl⟩;rw [bj] at ei;rw [show t.length - (i+1)=t.length - i by omega];exact so
     . rintro σ H5 ⟨s5,q5,pa5,cs,v6,v7,c5,so,rfl⟩;rw [ak,ql,aQ,show t.length - (t.length+1)=0 by omega,k9] at so;rw [O.done g R so] at c5;walk_at "rd";exact k lo H5 no s5 c5
def HY (T:Txt K mg):Sp:=fun vs H Q _=>∃ (a dt lx ly:Addr) (ns:List Int) (m:Int) (rs:List Road) (xs ys:List Int),vs=[.ref a,.ref dt,.int m,.ref lx,.ref ly]/\SqL K H a (ns.map V.int)/\TollsAt H dt rs/\Good m rs/\H lx=some (.lst (xs.map V.int))/\(xs.length:Int)=m/\(∀ x∈xs,0<=x)/\H ly=some (.lst (ys.map V.int))/\(ys.length:Int)=m /\
 ∀ (zs:List Int) (H':Hp),(zs.length:Int)=m->(∀ z∈zs,0<=z)->(∀ q o,q≠lx->H q=some o->H' q=some o)->H' lx=some (.lst (zs.map V.int))->Q .non H'
abbrev eF:Stmt:=top 57
theorem wE:FnScope ["script","tolls","many","laying","wish","head","r","due"] ["script","tolls","many","laying","wish"] (ag eF):=FnScope.of (by kernel_rfl)
theorem E7:NmL (ag eF) "script":=.of (by kernel_rfl)
theorem Hf:NmL (ag eF) "tolls":=.of (by kernel_rfl)
theorem zD:NmL (ag eF) "many":=.of (by kernel_rfl)
theorem gD:NmL (ag eF) "laying":=.of (by kernel_rfl)
theorem JU:NmL (ag eF) "wish":=.of (by kernel_rfl)
theorem pN:NmL (ag eF) "head":=.of (by kernel_rfl)
theorem im:NmL (ag eF) "r":=.of (by kernel_rfl)
theorem mQ:NmL (ag eF) "due":=.of (by kernel_rfl)
theorem uy:NmG (ag eF) "_law_drawn":=.of (by kernel_rfl)
theorem qL:NmG (ag eF) "_law_standings":=.of (by kernel_rfl)
theorem SV (T:Txt K mg) (hq:cr (CXe P w)) {f:Addr} {fd:FuncData} (D:Df K mg "_law_edge" eF ["script","tolls","many","laying","wish"] f fd) {cL:Addr} {dC:FuncData} (bc:Df K mg "_law_drawn" dj ["script","k"] cL dC) (cx:FnOk P w K mg base (CXe P w) 1 cL dC ["script","k"] (lU T)) {dH:Addr} {gK:FuncData} (cK:Df K mg "_law_standings" bO ["tolls","many","laying","wish","r"] dH gK) (gi:FnOk P w K mg base (CXe P w) 2 dH gK ["tolls","many","laying","wish","r"] (pF T)):FnOk P w K mg base (CXe P w) 3 f fd ["script","tolls","many","laying","wish"] (HY T):=by
 refine D.F.okC wE (fun vs H Q E h=>?_) (fun cdv A outer s H vs Q E hr h=>?_)
 . obtain ⟨a,dt,lx,ly,ns,m,rs,xs,ys,rfl,_⟩:=h
   rfl
 . obtain ⟨a,dt,lx,ly,ns,m,rs,xs,ys,rfl,ha,ta,g,hx,xl,x0,hy,yl,k⟩:=h;have m1:=g.m1;have m24:=g.m24;have mp:0<m:=by omega
   have p60:(0:Int)<10^Int.toNat 60:=Int.pow_pos (by decide);refine ⟨_,(aF (bz (i:=5) wE.nd rfl (Or.inl pN.l) (aX gO (aZ cx (hr.mono (by decide)) uy.g bc.m bc.F.kp bc.b .nil (cJ hq) (ah (pvl 0 E7) (ah aH ax)) (hdb:=uy.d)) aH)) (aF (bz (i:=6) wE.nd rfl (Or.inl im.l) (aX dU (aX gO (pvl 5 pN) aH) (pvl 2 zD))) (aF (bz (i:=7) wE.nd rfl (Or.inl mQ.l) (bu b9 (aZ gi (hr.mono (by decide)) qL.g cK.m cK.F.kp cK.b .nil (cJ hq) (ah (pvl 1 Hf) (ah (pvl 2 zD) (ah (pvl 3 gD) (ah (pvl 4 JU) (ah (pvl 6 im) ax))))) (hdb:=qL.d)) (pvl 6 im) (fun _ _=>rfl))) (aF (eN (PW.pt (rK (cn KI (aX dU (pvl 5 pN) aH) aH (b7 _)) (rK (cn Ah (pvl 7 mQ) aH (b7 _)) (rZ (cn Ah (aX pb (bu b9 (pvl 3 gD) (pvl 6 im) (fun _ _=>rfl)) (pvl 7 mQ)) (aX tF aH aH) (b7 _)))))) (aN (rL (aX pb (bu b9 (pvl 3 gD) (pvl 6 im) (fun _ _=>rfl)) (pvl 7 mQ)) (vf (pvl 3 gD) (pvl 6 im) kE))) cU) (aN (eN (PW.pt (rK (cn oB (aX dU (pvl 5 pN) aH) aH (b7 _)) (rK (cn yw (pvl 7 mQ) aH (b7 _)) (rZ (cn KI (bu b9 (pvl 3 gD) (pvl 6 im) (fun _ _=>rfl)) aH (b7 _)))))) (aN (rL (aX pb (bu b9 (pvl 3 gD) (pvl 6 im) (fun _ _=>rfl)) aH) (vf (pvl 3 gD) (pvl 6 im) kE))) cU)))))),?_⟩;rw [show L2.start ["script","tolls","many","laying","wish","head","r","due"] [V.ref a,V.ref dt,V.int m,V.ref lx,V.ref ly]=[some (V.ref a),some (V.ref dt),some (V.int m),some (V.ref lx),some (V.ref ly),none,none,none] from rfl];refine ft fun N1 h1=>?_;walk_at "rd";refine ⟨a,ns,0,rfl,ha,by decide,by decide,fun v0 v00=>⟨_,rfl,⟨by decide,by decide⟩,h1 _ _ (ft fun N2 h2=>?_)⟩⟩;generalize v0 / 4800=hd;walk_at "rd";refine ⟨⟨by decide,by decide⟩,mp,h2 _ _ (ft fun N3 h3=>?_)⟩;have r0:=bx (hd / 3) (qY mp);have r1:=bC (hd / 3) mp;generalize hd / 3 % m=r at r0 r1 ⊢;walk_at "rd";obtain ⟨par,dep,R⟩:=B4 g r0 r1;refine ⟨dt,lx,ly,true,true,rs,xs,ys,m,r,rfl,ta,g,SqL.of hx,xl,SqL.of hy,yl,⟨r0,r1⟩,par,dep,R,fun l H1 nl s1 el=>?_⟩;have gl:=atG (xs:=sF m rs r par dep (fun v=>(jg m xs ys).getD v.toNat 0) (hnd rs par)) r0 (by unfold sF;rw [ak,eD];omega);generalize (sF m rs r par dep (fun v=>(jg m xs ys).getD v.toNat 0) (hnd rs par)).getD r.toNat 0=du at gl;refine ixL el gl (h3 _ _ (ft fun N4 h4=>?_));have gm:∀ (zs:List Int) (H2:Hp),(zs.length:Int)=m->(∀ z∈zs,0<=z)->(∀ q o,q≠lx->H q=some o->H2 q=some o)->H2 lx=some (.lst (zs.map V.int))->N4 [some (V.ref a),some (V.ref dt),some (V.int m),some (V.ref lx),some (V.ref ly),some (V.int hd),some (V.int r),some (V.int du)] H2:=by
     intro zs H2 zl z0 oth hz;refine h4 _ _ ?_;have gz:=atG (xs:=zs) r0 (by omega);have zg:=TK z0 r.toNat;walk_at "rd";refine ⟨by decide,?_⟩;have stay:Q .non H2:=k zs H2 zl z0 oth hz;by_cases c1:hd % 3=2
     . rw [am c1];by_cases c2:du=0
       . rw [aj (fun z=>z c2)];exact stay
       . rw [am c2];refine ixL hz gz ⟨_,rfl,?_⟩;by_cases c3:0<zs.getD r.toNat 0
         . rw [am c3];refine ixL hz gz ⟨_,rfl,Be hz r0 (by rw [ak];omega) ?_⟩;rw [<- dJ];exact k _ _ (by rw [cX];exact zl) (Kc z0 (by omega)) (fun q o n e=>by rw [aR n];exact oth q o n e) aq
         . rw [aj c3];exact stay
     . rw [aj c1];exact stay
   have st0:=gm xs H1 xl x0 (fun q o _ e=>s1 q o e) (s1 _ _ hx);have gx:=atG (xs:=xs) r0 (by omega);have xg:=TK x0 r.toNat;walk_at "rd";refine ⟨by decide,?_⟩;by_cases c1:0<hd % 3
   . rw [am c1];by_cases c2:du<0
     . rw [am c2];refine ixL (s1 _ _ hx) gx ⟨_,rfl,⟨by decide,by decide,by decide⟩,?_⟩;by_cases c3:xs.getD r.toNat 0 - du<10^Int.toNat 60
       . rw [am c3];refine ixL (s1 _ _ hx) gx ⟨_,rfl,Be (s1 _ _ hx) r0 (by rw [ak];omega) ?_⟩;rw [<- dJ];exact gm _ _ (by rw [cX];exact xl) (Kc x0 (by omega)) (fun q o n e=>by rw [aR n];exact s1 q o e) aq
       . rw [aj c3];exact st0
     . rw [aj c2];exact st0
   . rw [aj c1];exact st0
def xO (T:Txt K mg):Sp:=fun vs H Q _=>∃ (ll:Addr) (zs:List Int) (cell:Int),vs=[.ref ll,.int cell]/\H ll=some (.lst (zs.map V.int))/\1<=zs.length/\zs.length<=24 /\
 ∀ (lt:Addr) (as:List Addr) (H':Hp),H lt=none->Same H H'->H' lt=some (.lst (as.map V.ref))->as.length<=6->TupAll H' as->Q (.ref lt) H'
abbrev cH:Stmt:=top 63
theorem oz:FnScope ["lacks","cell","at","told","more"] ["lacks","cell"] (ag cH):=FnScope.of (by kernel_rfl)
theorem eP:NmL (ag cH) "lacks":=.of (by kernel_rfl)
theorem BG:NmL (ag cH) "cell":=.of (by kernel_rfl)
theorem kW:NmL (ag cH) "at":=.of (by kernel_rfl)
theorem nC:NmL (ag cH) "told":=.of (by kernel_rfl)
theorem sO:NmL (ag cH) "more":=.of (by kernel_rfl)
theorem o7:NmG (ag cH) "len":=.of (by kernel_rfl)
theorem cg:NmG (ag cH) "tuple":=.of (by kernel_rfl)
theorem GU (T:Txt K mg) (hq:cr (CXe P w)) {f:Addr} {fd:FuncData} (D:Df K mg "_law_lacks_else" cH ["lacks","cell"] f fd):FnOk P w K mg base (CXe P w) 1 f fd ["lacks","cell"] (xO T):=by
 refine D.F.okC oz (fun vs H Q E h=>?_) (fun cdv A outer s H vs Q E hr h=>?_)
 . obtain ⟨ll,zs,cell,rfl,_⟩:=h
   rfl
 . obtain ⟨ll,zs,cell,rfl,hl,z1,z24,k⟩:=h;have hv:=hr.units;refine ⟨_,(aF (bz (i:=2) oz.nd rfl (Or.inl kW.l) (aX dU (pvl 1 BG) (fG fV o7.g T.len oV (ah (pvl 0 eP) ax) (hn:=o7.n) (hdb:=o7.d)))) (aF (bz (i:=3) oz.nd rfl (Or.inl nC.l) (eE (ah (dN dM cg.g T.tuple iq (ah (pvl 0 eP) ax) (hn:=cg.n) (hdb:=cg.d)) (ah (dN dM cg.g T.tuple iq (ah (nL qm (pvl 0 eP) (qc aH) qr) ax) (hn:=cg.n) (hdb:=cg.d)) (ah (dN dM cg.g T.tuple iq (ah (aX sY (pvl 0 eP) (eE (ah aH ax))) ax) (hn:=cg.n) (hdb:=cg.d)) (ah (dD ax) ax)))))) (aF (gB PassesOwn.never rfl (mI (eE (ah aH (ah (GO B9 aH) ax)))) (bE (i:=4) oz.nd rfl (Or.inl sO.l)) (aN (dy (ki PySem.F.plainAttrs_list PySem.F.slot_list_append PySem.F.type_list_append eI (pvl 3 nC) (ah (dN dM cg.g T.tuple iq (ah (aX sY (aX sY (nL qm (pvl 0 eP) qr (qc (pvl 2 kW))) (eE (ah (aX jt (bu b9 (pvl 0 eP) (pvl 2 kW) (fun _ _=>rfl)) (pvl 4 sO)) ax))) (nL qm (pvl 0 eP) (qc (aX jt (pvl 2 kW) aH)) qr)) ax) (hn:=cg.n) (hdb:=cg.d)) ax))))) (aN (b5 (pvl 3 nC)))))),?_⟩;rw [show L2.start ["lacks","cell","at","told","more"] [V.ref ll,V.int cell]=[some (V.ref ll),some (V.int cell),none,none,none] from rfl];refine ft fun N0 h0=>?_;walk_at "rd";refine ⟨_,.inl (SqL.of hl),?_⟩;rw [ak];have c0:=bx cell (show (zs.length:Int)≠0 by omega);have c1:=bC cell (show (0:Int)<zs.length by omega);refine ⟨by omega,h0 _ _ (ft fun N1 h1=>?_)⟩;generalize cell % (zs.length:Int)=at' at c0 c1 ⊢;unfold tSl D2 tNoPart;walk_at "rd";have A0:TupAll H []:=fun a ha=>by cases ha
   refine ⟨_,.inl ⟨SqL.of hl,fun l1 n1=>?_⟩⟩;have s1:=Same.new (HO.tup (zs.map V.int)) n1;have A1:=A0.snoc s1 (a:=l1) (ws:=zs) aq (by omega);generalize upd H l1 (HO.tup (zs.map V.int))=H1 at s1 A1 ⊢;refine ⟨ll,_,rfl,SqL.of (s1 _ _ hl),fun l2 n2=>?_⟩;rw [Rc _ (by decide),<- pG];have s2:=Same.new (HO.lst ((zs.drop (1:Int).toNat).map V.int)) n2;have e2:upd H1 l2 (HO.lst ((zs.drop (1:Int).toNat).map V.int)) l2=some (.lst ((zs.drop (1:Int).toNat).map V.int)):=aq;generalize upd H1 l2 (HO.lst ((zs.drop (1:Int).toNat).map V.int))=H2 at s2 e2 ⊢;refine ⟨l2,rfl,_,.inl ⟨SqL.of e2,fun l3 n3=>?_⟩⟩;have s3:=s2.trans (Same.new (HO.tup ((zs.drop (1:Int).toNat).map V.int)) n3);have A3:=A1.snoc s3 (a:=l3) (ws:=zs.drop (1:Int).toNat) aq (by rw [cV];omega);have t3:=s1.trans s3;generalize upd H2 l3 (HO.tup ((zs.drop (1:Int).toNat).map V.int))=H3 at s3 A3 t3 ⊢;clear s1 s2 s3 e2 n1 n2 n3 A0 A1;refine ⟨bn (by simp),fun l4 n4=>?_⟩;have s4:=Same.new (HO.lst [V.int 1]) n4;have e4:upd H3 l4 (HO.lst [V.int 1]) l4=some (.lst ([(1:Int)].map V.int)):=aq;generalize upd H3 l4 (HO.lst [V.int 1])=H4 at s4 e4 ⊢;refine ⟨ll,l4,_,_,rfl,rfl,s4 _ _ (t3 _ _ hl),e4,bn (by rw [ak,ak];simp;omega),fun l5 n5=>?_⟩;rw [<- aK];have s5:=s4.trans (Same.new (HO.lst ((zs++[1]).map V.int)) n5);have e5:upd H4 l5 (HO.lst ((zs++[1]).map V.int)) l5=some (.lst ((zs++[1]).map V.int)):=aq;generalize upd H4 l5 (HO.lst ((zs++[1]).map V.int))=H5 at s5 e5 ⊢;refine ⟨l5,rfl,_,.inl ⟨SqL.of e5,fun l6 n6=>?_⟩⟩;have s6:=s5.trans (Same.new (HO.tup ((zs++[1]).map V.int)) n6);have A6:=A3.snoc s6 (a:=l6) (ws:=zs++[1]) aq (by rw [au];show zs.length+1<=60;omega);have t6:=t3.trans s6;generalize upd H5 l6 (HO.tup ((zs++[1]).map V.int))=H6 at s6 A6 t6 ⊢;clear s4 s5 s6 e4 e5 n4 n5 n6 A3 t3;refine ⟨bn (by simp),fun l7 n7=>?_⟩;have s7:=Same.new (HO.tup []) n7;have A7:=A6.snoc s7 (a:=l7) (ws:=[]) aq (by show 0<=60;decide);have t7:=t6.trans s7;generalize upd H6 l7 (HO.tup [])=H7 at s7 A7 t7 ⊢;refine ⟨bn (by simp),fun lt nlt=>h1 _ _ (ft fun N2 h2=>?_)⟩;have s8:=Same.new (HO.lst [V.ref l1,V.ref l3,V.ref l6,V.ref l7]) nlt;have nlt0:H lt=none:=t7.free nlt;have e8:upd H7 lt (HO.lst [V.ref l1,V.ref l3,V.ref l6,V.ref l7]) lt=some (.lst (([]++[l1]++[l3]++[l6]++[l7]).map V.ref)):=aq;have A8:=A7.same s8;have t8:=t7.trans s8;generalize upd H7 lt (HO.lst [V.ref l1,V.ref l3,V.ref l6,V.ref l7])=H8 at A8 t8 e8 ⊢;generalize hq0:([]++[l1]++[l3]++[l6]++[l7]:List Addr)=as0 at A8 e8;have as4:as0.length=4:=by rw [<- hq0];rfl
   clear hq0 s8 A7 A6 t7 t6 s7 n7;walk_at "rd";refine ⟨bn (by simp),fun pm nm=>?_⟩;have s9:=Same.new (HO.lst [V.int 1,V.int (-1)]) nm;have e9:upd H8 pm (HO.lst [V.int 1,V.int (-1)]) pm=some (.lst ([(1:Int),-1].map V.int)):=aq;have A9:=A8.same s9;have t9:=t8.trans s9;have el9:=s9 _ _ e8;generalize upd H8 pm (HO.lst [V.int 1,V.int (-1)])=H9 at A9 t9 e9 el9 ⊢;have npl:pm≠lt:=fun z=>by rw [z,e8] at nm;cases nm
   clear A8 t8 e8 s9 nlt nm;refine ⟨⟨_,SqL.of e9⟩,?_⟩;refine rg (K:=K) (xs:=[(1:Int),-1].map V.int) (fun i σ H'=>Same H H'/\H' pm=some (.lst ([(1:Int),-1].map V.int))/\(∃ as,H' lt=some (.lst (as.map V.ref))/\as.length=4+i/\TupAll H' as)/\∃ v4,σ=[some (V.ref ll),some (V.int cell),some (V.int at'),some (V.ref lt),v4]) ⟨t9,e9,⟨as0,el9,by omega,A9⟩,_,rfl⟩ (fun i σ H' _ z=>SqL.of z.2.1) ?_ ?_
   . rintro i x σ H' M BB hBB hM hx ⟨t',em,⟨as,el,asl,A⟩,v4,rfl⟩;obtain ⟨mo,hmo,rfl⟩:=List.getElem?_map_some hx;have i2:=(aB.mp hmo).1;have i2':i<2:=i2;refine hBB _ _ ?_;unfold tSl D2 tNoPart;walk_at "rd";refine ⟨tyL el,ll,_,rfl,SqL.of (t' _ _ hl),fun l1 n1=>?_⟩;rw [Ph _ c0,<- pL];have s1:=Same.new (HO.lst ((zs.take at'.toNat).map V.int)) n1;have e1:upd H' l1 (HO.lst ((zs.take at'.toNat).map V.int)) l1=some (.lst ((zs.take at'.toNat).map V.int)):=aq;generalize upd H' l1 (HO.lst ((zs.take at'.toNat).map V.int))=G1 at s1 e1 ⊢;refine ixL (s1 _ _ (t' _ _ hl)) (atG c0 (by omega)) ⟨_,rfl,bn (by simp),fun l2 n2=>?_⟩;have s2:=s1.trans (Same.new (HO.lst [V.int (zs.getD at'.toNat 0+mo)]) n2);have e12:=Same.new (HO.lst [V.int (zs.getD at'.toNat 0+mo)]) n2 _ _ e1;have e2:upd G1 l2 (HO.lst [V.int (zs.getD at'.toNat 0+mo)]) l2=some (.lst ([zs.getD at'.toNat 0+mo].map V.int)):=aq;generalize upd G1 l2 (HO.lst [V.int (zs.getD at'.toNat 0+mo)])=G2 at s2 e12 e2 ⊢;have tk:(zs.take at'.toNat).length<=24:=(by rw [bo];omega);refine ⟨l1,l2,_,_,rfl,rfl,e12,e2,bn (by rw [ak,ak];show _+1<=_;omega),fun l3 n3=>?_⟩;rw [<- aK];have s3:=s2.trans (Same.new (HO.lst ((zs.take at'.toNat++[zs.getD at'.toNat 0+mo]).map V.int)) n3);have e3:upd G2 l3 (HO.lst ((zs.take at'.toNat++[zs.getD at'.toNat 0+mo]).map V.int)) l3=some (.lst ((zs.take at'.toNat++[zs.getD at'.toNat 0+mo]).map V.int)):=aq;generalize upd G2 l3 (HO.lst ((zs.take at'.toNat++[zs.getD at'.toNat 0+mo]).map V.int))=G3 at s3 e3 ⊢;refine ⟨ll,_,rfl,SqL.of (s3 _ _ (t' _ _ hl)),fun l4 n4=>?_⟩;rw [Rc _ (by omega),<- pG];have s4:=s3.trans (Same.new (HO.lst ((zs.drop (at'+1).toNat).map V.int)) n4);have e34:=Same.new (HO.lst ((zs.drop (at'+1).toNat).map V.int)) n4 _ _ e3;have e4:upd G3 l4 (HO.lst ((zs.drop (at'+1).toNat).map V.int)) l4=some (.lst ((zs.drop (at'+1).toNat).map V.int)):=aq;generalize upd G3 l4 (HO.lst ((zs.drop (at'+1).toNat).map V.int))=G4 at s4 e34 e4 ⊢;have dk:(zs.drop (at'+1).toNat).length<=24:=(by rw [cV];omega);have wl:((zs.take at'.toNat++[zs.getD at'.toNat 0+mo])++zs.drop (at'+1).toNat).length<=60:=by
       rw [au,au];show _+1+_<=60;omega
     refine ⟨l3,l4,_,_,rfl,rfl,e34,e4,bn (by rw [au] at wl;rw [ak,ak];omega),fun l5 n5=>?_⟩;rw [<- aK];generalize (zs.take at'.toNat++[zs.getD at'.toNat 0+mo])++zs.drop (at'+1).toNat=ws at wl ⊢;have s5:=s4.trans (Same.new (HO.lst (ws.map V.int)) n5);have e5:upd G4 l5 (HO.lst (ws.map V.int)) l5=some (.lst (ws.map V.int)):=aq;generalize upd G4 l5 (HO.lst (ws.map V.int))=G5 at s5 e5 ⊢;refine ⟨l5,rfl,_,.inl ⟨SqL.of e5,fun l6 n6=>?_⟩⟩;have s6:=s5.trans (Same.new (HO.tup (ws.map V.int)) n6);have A6:=A.snoc s6 (a:=l6) (ws:=ws) aq wl;have el6:=s6 _ _ el;have em6:=s6 _ _ em;have t6:=t'.trans s6;generalize upd G5 l6 (HO.tup (ws.map V.int))=G6 at A6 el6 em6 t6 ⊢;refine uY el6 (gk (by rw [ak];omega)) (hM _ _ ⟨t6.put nlt0 _,by rw [aR npl];exact em6,⟨as++[l6],by rw [aq,aK];rfl,by rw [au];show as.length+1=_;omega,A6.put el6⟩,_,rfl⟩)
   . rintro BB σ H' hBB ⟨t',em,⟨as,el,asl,A⟩,v4,rfl⟩;refine hBB _ _ (h2 _ _ ?_);walk_at "rd";exact k lt as H' nlt0 t' el (by rw [asl];decide) A
def Ev (T:Txt K mg):Sp:=fun vs H Q _=>∃ (a:Addr) (ns:List Int) (m b:Int),vs=[.ref a,.int m,.int b]/\SqL K H a (ns.map V.int)/\ns.length<=63/\1<=m/\m<=24/\1<=b/\∀ (l:Addr) (xs:List Int) (H':Hp),H l=none->Same H H'->H' l=some (.lst (xs.map V.int))->(xs.length:Int)=m->(∀ x∈xs,0<=x)->Q (.ref l) H'
abbrev dF:Stmt:=top 55
theorem tJ:FnScope ["script","many","bound","laying","k","place"] ["script","many","bound"] (ag dF):=FnScope.of (by kernel_rfl)
theorem pC:NmL (ag dF) "script":=.of (by kernel_rfl)
theorem nh:NmL (ag dF) "many":=.of (by kernel_rfl)
theorem EB:NmL (ag dF) "bound":=.of (by kernel_rfl)
theorem k7:NmL (ag dF) "laying":=.of (by kernel_rfl)
theorem qM:NmL (ag dF) "k":=.of (by kernel_rfl)
theorem qy:NmL (ag dF) "place":=.of (by kernel_rfl)
theorem EN:NmG (ag dF) "range":=.of (by kernel_rfl)
theorem sv:NmG (ag dF) "len":=.of (by kernel_rfl)
theorem jk:NmG (ag dF) "_law_drawn":=.of (by kernel_rfl)
theorem NU (T:Txt K mg) (hq:cr (CXe P w)) {f:Addr} {fd:FuncData} (D:Df K mg "_law_laying" dF ["script","many","bound"] f fd) {cL:Addr} {dC:FuncData} (bc:Df K mg "_law_drawn" dj ["script","k"] cL dC) (cx:FnOk P w K mg base (CXe P w) 1 cL dC ["script","k"] (lU T)):FnOk P w K mg base (CXe P w) 2 f fd ["script","many","bound"] (Ev T):=by
 refine D.F.okC tJ (fun vs H Q E h=>?_) (fun cdv A outer s H vs Q E hr h=>?_)
 . obtain ⟨a,ns,m,b,rfl,_⟩:=h
   rfl
 . obtain ⟨a,ns,m,b,rfl,ha,hn,m0,m1,b0,k⟩:=h;refine ⟨_,(aF (bz (i:=3) tJ.nd rfl (Or.inl k7.l) (aX Qk (eE (ah aH ax)) (pvl 1 nh))) (aF (gB PassesOwn.never rfl (EZ EN.g T.range (ah (pvl 1 nh) (ah (fG fV sv.g T.len oV (ah (pvl 0 pC) ax) (hn:=sv.n) (hdb:=sv.d)) ax))) (bE (i:=4) tJ.nd rfl (Or.inl qM.l)) (aN (eN (cn oB (aX dU (pvl 4 qM) aH) aH (b7 _)) (aF (bz (i:=5) tJ.nd rfl (Or.inl qy.l) (aX dU (aZ cx (hr.mono (by decide)) jk.g bc.m bc.F.kp bc.b .nil (cJ hq) (ah (pvl 0 pC) (ah (pvl 4 qM) ax)) (hdb:=jk.d)) (pvl 1 nh))) (aN (rL (aX dU (aX jt (aX qU (bu b9 (pvl 3 k7) (pvl 5 qy) (fun _ _=>rfl)) aH) (aX gO (aZ cx (hr.mono (by decide)) jk.g bc.m bc.F.kp bc.b .nil (cJ hq) (ah (pvl 0 pC) (ah (pvl 4 qM) ax)) (hdb:=jk.d)) (pvl 1 nh))) (pvl 2 EB)) (vf (pvl 3 k7) (pvl 5 qy) kE)))) cU))) (aN (b5 (pvl 3 k7))))),?_⟩;rw [show L2.start ["script","many","bound","laying","k","place"] [V.ref a,V.int m,V.int b]=[some (V.ref a),some (V.int m),some (V.int b),none,none,none] from rfl];walk_at "rd";refine ⟨bn (by simp),fun l0 n0=>?_⟩;refine ⟨l0,m,_,rfl,rfl,aq,by omega,by omega,bn (by simp;omega),fun l n1=>?_⟩;rw [bza];have s0:Same H (upd H l0 (.lst [.int 0])):=Same.new _ n0;have s1:=s0.trans (Same.new (.lst (List.replicate m.toNat (V.int 0))) n1);have nl:=s0.free n1;refine ⟨_,.inl (Same.seq s1 ha),m,_,⟨rfl,rfl⟩,⟨by omega,by omega,by omega,by rw [ak];omega⟩,?_⟩;rw [ak];have e1:upd (upd H l0 (.lst [.int 0])) l (.lst (List.replicate m.toNat (V.int 0))) l=some (.lst ((List.replicate m.toNat (0:Int)).map V.int)):=by rw [aq,List.map_replicate]
   generalize upd (upd H l0 (.lst [.int 0])) l (.lst (List.replicate m.toNat (V.int 0)))=H1 at s1 e1 ⊢;refine yj (fun i σ H2=>Same H H2/\∃ (xs:List Int) (v4 v5:Option V),H2 l=some (.lst (xs.map V.int))/\(xs.length:Int)=m/\(∀ x∈xs,0<=x)/\σ=[some (.ref a),some (.int m),some (.int b),some (.ref l),v4,v5]) ⟨s1,_,_,_,e1,by rw [fJ];omega,fun x hx=>by rw [(List.mem_replicate.mp hx).2];decide,rfl⟩ ?_ ?_
   . rintro i σ H2 N hN hi ⟨s2,xs,v4,v5,e2,xl,x0,rfl⟩;have i0:0<=m+(i:Int):=(by omega);have i1:m+(i:Int)<=1000:=(by omega);generalize m+(i:Int)=j at i0 i1 ⊢;have sa:=Same.seq s2 ha;walk_at "rd";refine ⟨by decide,?_⟩;by_cases z:j % 2=0
     . rw [am z];refine ⟨a,ns,j,rfl,sa,i0,i1,fun c c0=>⟨c,rfl,by omega,?_⟩⟩;have h1:=bx c (show m≠0 by omega);have h2:=bC c (show 0<m by omega);generalize c % m=p at h1 h2 ⊢;refine ixL e2 (atG h1 (by omega)) ⟨_,rfl,.inr ⟨by decide,by decide⟩,a,ns,j,rfl,sa,i0,i1,fun c' c0'=>⟨c',rfl,⟨by omega,by omega⟩,by omega,Be e2 h1 (by rw [ak];omega) (hN _ _ ⟨s2.put nl _,xs.set p.toNat _,_,_,by rw [aq,dJ],by rw [cX];exact xl,Kc x0 (bx _ (by omega)),rfl⟩)⟩⟩
     . rw [aj z];exact hN _ _ ⟨s2,xs,_,_,e2,xl,x0,rfl⟩
   . rintro σ H2 ⟨s2,xs,v4,v5,e2,xl,x0,rfl⟩;exact ⟨_,rfl,k l xs H2 nl s2 e2 xl x0⟩
def Ih (T:Txt K mg):Sp:=fun vs H Q _=>∃ (c:Int),vs=[.int c]/\∀ t,2<=t->t<=1000000->Q (.int t) H
abbrev lz:Stmt:=top 49
theorem S5:FnScope ["part"] ["part"] (ag lz):=FnScope.of (by kernel_rfl)
theorem uc:NmL (ag lz) "part":=.of (by kernel_rfl)
theorem Sl (T:Txt K mg) (hq:cr (CXe P w)) {f:Addr} {fd:FuncData} (D:Df K mg "_law_toll" lz ["part"] f fd):FnOk P w K mg base (CXe P w) 1 f fd ["part"] (Ih T):=by
 refine D.F.okC S5 (fun vs H Q E h=>?_) (fun cdv A outer s H vs Q E hr h=>?_)
 . obtain ⟨c,rfl,_⟩:=h
   rfl
 . obtain ⟨c,rfl,k⟩:=h;refine ⟨_,(aF (eN (cn oB (aX dU (pvl 0 uc) aH) aH (b7 _)) (aN (b5 (aX jt aH (aX dU (aX gO (pvl 0 uc) aH) (aX pb (aX tF aH aH) aH))))) cU) (aN (b5 (aX jt aH (aX dU (aX gO (pvl 0 uc) aH) aH))))),?_⟩;rw [show L2.start ["part"] [V.int c]=[some (V.int c)] from rfl];walk_at "rd";have e6:(10:Int)^Int.toNat 6 - 1=999999:=by decide
   have a1:=bx (c / 8) (show (999999:Int)≠0 by decide);have a2:=bC (c / 8) (show (0:Int)<999999 by decide);have a3:=bx (c / 8) (show (4:Int)≠0 by decide);have a4:=bC (c / 8) (show (0:Int)<4 by decide);refine ⟨by decide,?_⟩;by_cases z:c % 8=7
   . rw [am z];refine ⟨⟨by decide,by decide⟩,⟨by decide,by decide,by decide⟩,by decide,?_⟩;rw [e6];exact k _ (by omega) (by omega)
   . rw [aj z];exact ⟨⟨by decide,by decide⟩,by decide,k _ (by omega) (by omega)⟩
def Gn (T:Txt K mg):Sp:=fun vs H Q _=>∃ (a:Addr) (ns:List Int) (m s:Int),vs=[.ref a,.int m,.int s]/\SqL K H a (ns.map V.int)/\1<=m/\m<=24/\0<=s/\s<4 /\
 ∀ (l:Addr) (ps:List Addr) (rs:List Road) (H':Hp),H l=none->Same H H'->H' l=some (.lst (ps.map V.ref))->RoadsAt H' ps rs->Good m rs->Q (.ref l) H'
abbrev c9:Stmt:=top 50
theorem iQ:FnScope ["script","many","shape","roads","k","part","to","there","back"] ["script","many","shape"] (ag c9):=FnScope.of (by kernel_rfl)
theorem EH:NmL (ag c9) "script":=.of (by kernel_rfl)
theorem He:NmL (ag c9) "many":=.of (by kernel_rfl)
theorem FY:NmL (ag c9) "shape":=.of (by kernel_rfl)
theorem m7:NmL (ag c9) "roads":=.of (by kernel_rfl)
theorem iB:NmL (ag c9) "k":=.of (by kernel_rfl)
theorem fA:NmL (ag c9) "part":=.of (by kernel_rfl)
theorem va:NmL (ag c9) "to":=.of (by kernel_rfl)
theorem mU:NmL (ag c9) "there":=.of (by kernel_rfl)
theorem ow:NmL (ag c9) "back":=.of (by kernel_rfl)
theorem EX:NmG (ag c9) "range":=.of (by kernel_rfl)
theorem tj:NmG (ag c9) "_law_drawn":=.of (by kernel_rfl)
theorem kg:NmG (ag c9) "_law_toll":=.of (by kernel_rfl)
theorem Qg (T:Txt K mg) (hq:cr (CXe P w)) {f:Addr} {fd:FuncData} (D:Df K mg "_law_roads" c9 ["script","many","shape"] f fd) {cL:Addr} {dC:FuncData} (bc:Df K mg "_law_drawn" dj ["script","k"] cL dC) (cx:FnOk P w K mg base (CXe P w) 1 cL dC ["script","k"] (lU T)) {pI:Addr} {HG:FuncData} (lD:Df K mg "_law_toll" lz ["part"] pI HG) (yg:FnOk P w K mg base (CXe P w) 1 pI HG ["part"] (Ih T)):FnOk P w K mg base (CXe P w) 2 f fd ["script","many","shape"] (Gn T):=by
 refine D.F.okC iQ (fun vs H Q E h=>?_) (fun cdv A outer s H vs Q E hr h=>?_)
 . obtain ⟨a,ns,m,s,rfl,_⟩:=h
   rfl
 . obtain ⟨a,ns,m,sh,rfl,ha,m1,m24,sh0,sh4,k⟩:=h;refine ⟨_,(aF (bz (i:=3) iQ.nd rfl (Or.inl m7.l) (eE ax)) (aF (gB PassesOwn.never rfl (EZ EX.g T.range (ah aH (ah (pvl 1 He) ax))) (bE (i:=4) iQ.nd rfl (Or.inl iB.l)) (aF (bz (i:=5) iQ.nd rfl (Or.inl fA.l) (aZ cx (hr.mono (by decide)) tj.g bc.m bc.F.kp bc.b .nil (cJ hq) (ah (pvl 0 EH) (ah (pvl 4 iB) ax)) (hdb:=tj.d))) (aF (bz (i:=6) iQ.nd rfl (Or.inl va.l) (bu b9 (eE (ah (aX dU (pvl 5 fA) (pvl 4 iB)) (ah (aX pb (pvl 4 iB) aH) (ah aH (ah (aX dU (pvl 5 fA) (pvl 4 iB)) ax))))) (pvl 2 FY) (fun _ _=>rfl))) (aF (bz (i:=5) iQ.nd rfl (Or.inl fA.l) (aX gO (pvl 5 fA) (pvl 4 iB))) (aF (bz (i:=7) iQ.nd rfl (Or.inl mU.l) (aZ yg (hr.mono (by decide)) kg.g lD.m lD.F.kp lD.b .nil (cJ hq) (ah (aX dU (pvl 5 fA) (aX tF aH aH)) ax) (hdb:=kg.d))) (aF (bz (i:=8) iQ.nd rfl (Or.inl ow.l) (aZ yg (hr.mono (by decide)) kg.g lD.m lD.F.kp lD.b .nil (cJ hq) (ah (aX dU (aX gO (pvl 5 fA) (aX tF aH aH)) (aX tF aH aH)) ax) (hdb:=kg.d))) (aF (eN (cn oB (aX dU (aX Qm (pvl 5 fA) (aX tF aH aH)) aH) aH (b7 _)) (aN (bz (i:=8) iQ.nd rfl (Or.inl ow.l) (pvl 7 mU))) cU) (aN (eN (cn oB (aX dU (aX Qm (pvl 5 fA) (aX tF aH aH)) aH) aH (b7 _)) (aN (dy (ki PySem.F.plainAttrs_list PySem.F.slot_list_append PySem.F.type_list_append eI (pvl 3 m7) (ah (dD (ah (pvl 6 va) (ah (pvl 4 iB) (ah (pvl 7 mU) (ah (pvl 8 ow) ax))))) ax)))) (aN (dy (ki PySem.F.plainAttrs_list mw PySem.F.type_list_insert XR (pvl 3 m7) (ah aH (ah (dD (ah (pvl 4 iB) (ah (pvl 6 va) (ah (pvl 8 ow) (ah (pvl 7 mU) ax))))) ax)))))))))))))) (aN (b5 (pvl 3 m7))))),?_⟩;rw [show L2.start ["script","many","shape","roads","k","part","to","there","back"] [V.ref a,V.int m,V.int sh]=[some (V.ref a),some (V.int m),some (V.int sh),none,none,none,none,none,none] from rfl];walk_at "rd";refine ⟨by decide,fun lo nlo=>⟨1,m,⟨rfl,rfl⟩,⟨by decide,by decide,by omega,by omega⟩,?_⟩⟩;refine yj (fun i σ H3=>∃ (ps:List Addr) (rs:List Road) (rows:List Row) (v4 v5 v6 v7 v8:Option V),σ=[some (V.ref a),some (V.int m),some (V.int sh),some (V.ref lo),v4,v5,v6,v7,v8]/\Same H H3/\H3 lo=some (.lst (ps.map V.ref))/\RoadsAt H3 ps rs/\Rows i rows/\Put (below m.toNat) rows rs) ⟨[],[],[],_,_,_,_,_,rfl,Same.new _ nlo,aq,.nil,⟨rfl,fun i r h=>by cases h⟩,Put.nil _⟩ ?_ ?_
   . rintro i σ H3 N hN hi ⟨ps,rs,rows,v4,v5,v6,v7,v8,rfl,s3,hl3,ro3,R,P⟩;have k0:(1:Int)<=1+(i:Int):=(by omega);have k1:1+(i:Int)<m:=(by omega);generalize hk:(1:Int)+(i:Int)=kk at k0 k1 ⊢;have psl:ps.length=rs.length:=Paired.length ro3;have rl:=R.len;have pl:=P.len;walk_at "rd";refine ⟨a,ns,kk,rfl,Same.seq s3 ha,by omega,by omega,fun c c0=>?_⟩;have em:∀ (x n:Int),0<n->0<=x % n/\x % n<n:=fun x n h=>⟨bx x (qY h),bC x h⟩;have hg:=em c kk (by omega);have cp9:dCa 10 9:=⟨by decide,by decide,by decide⟩;have e9:(10:Int)^Int.toNat 9=1000000000:=(by decide);have e18:(10:Int)^Int.toNat 18=1000000000000000000:=(by decide);have e19:(10:Int)^Int.toNat 19=10000000000000000000:=(by decide);refine ⟨c,rfl,by omega,c,rfl,by omega,bn (by simp),fun q1 hq1=>?_⟩;have s4:=Same.new (.lst [.int (c % kk),.int (kk - 1),.int 0,.int (c % kk)]) hq1;obtain ⟨un,hun,u0,u1⟩:∃ un:Int,atI [V.int (c % kk),V.int (kk - 1),V.int 0,V.int (c % kk)] sh=some (.int un)/\0<=un/\un<kk:=by
       rcases (show sh=0\/sh=1\/sh=2\/sh=3 by omega) with z|z|z|z
       . exact ⟨_,by rw [z];rfl,hg.1,hg.2⟩
       . exact ⟨_,by rw [z];rfl,by omega,by omega⟩
       . exact ⟨_,by rw [z];rfl,by omega,by omega⟩
       . exact ⟨_,by rw [z];rfl,hg.1,hg.2⟩
     refine ixL aq hun ?_;generalize upd H3 q1 (.lst [.int (c % kk),.int (kk - 1),.int 0,.int (c % kk)])=H4 at s4 ⊢;rw [e9,e18,e19];refine ⟨c,rfl,⟨by omega,by omega⟩,cp9,by decide,_,rfl,fun th t0 t1=>⟨cp9,⟨by decide,by decide⟩,cp9,by decide,_,rfl,fun bk b0 b1=>⟨⟨by decide,by decide,by decide⟩,⟨by decide,by decide⟩,by decide,?_⟩⟩⟩;have hl4:=s4 _ _ hl3;have ro4:=RoadsAt.same s4 ro3;have lu:=Kd (n:=m.toNat) u0 (by omega);have lk:=Kd (n:=m.toNat) (show 0<=kk by omega) (by omega);have keep:∀ {H7:Hp} {zs:List V} {q:Addr} {r':Road},Same H3 H7->H7 q=some (.tup (rX r'))->upd H7 lo (.lst zs) q=some (.tup (rX r')):=fun {H7 zs q r'} s7 h=>by rw [aR (lA h (s7 _ _ hl3) (by intro z;cases z))];exact h
     have fin:∀ (H7:Hp) (q:Addr) (row:Row) (n:Nat) (v5 v6 v7 v8:Option V),Same H3 H7->row.k=kk->RowOk row->H7 q=some (.tup (rX (oP (below m.toNat) row)))->N [some (V.ref a),some (V.int m),some (V.int sh),some (V.ref lo),some (V.int kk),v5,v6,v7,v8] (upd H7 lo (.lst ((ps.take n++q::ps.drop n).map V.ref))):=by
       intro H7 q row n v5 v6 v7 v8 s7 rk rok hq;refine hN _ _ ⟨_,rs.take n++oP (below m.toNat) row::rs.drop n,rows++[row],_,_,_,_,_,rfl,(s3.trans s7).put nlo _,aq,?_,WV R (by omega) rok,P.step row n⟩;exact dwa n (Paired.imp' (fun p r h=>keep s7 h) (RoadsAt.same s7 ro3)) (keep s7 hq)
     have app:∀ (H7:Hp) (q:Addr) (row:Row) (v5 v6 v7 v8:Option V),Same H3 H7->row.k=kk->RowOk row->H7 q=some (.tup (rX (oP (below m.toNat) row)))->rAppend (V.ref lo) [V.ref q] H7 fun _ H1=>N [some (V.ref a),some (V.int m),some (V.int sh),some (V.ref lo),some (V.int kk),v5,v6,v7,v8] H1:=fun H7 q row v5 v6 v7 v8 s7 rk rok hq=>by
       refine uY (s7 _ _ hl3) (gk (by rw [ak];omega)) ?_;have:=fin H7 q row ps.length v5 v6 v7 v8 s7 rk rok hq;rw [db,nU,aK] at this;exact this
     have ins:∀ (H7:Hp) (q:Addr) (row:Row) (v5 v6 v7 v8:Option V),Same H3 H7->row.k=kk->RowOk row->H7 q=some (.tup (rX (oP (below m.toNat) row)))->rInsert (V.ref lo) [V.int 0,V.ref q] H7 fun _ H1=>N [some (V.ref a),some (V.int m),some (V.int sh),some (V.ref lo),some (V.int kk),v5,v6,v7,v8] H1:=fun H7 q row v5 v6 v7 v8 s7 rk rok hq=>by
       refine eSa (s7 _ _ hl3) (i9 _) (by omega) (gk (by rw [ak];omega)) ?_;have:=fin H7 q row 0 v5 v6 v7 v8 s7 rk rok hq;rw [cR,k9,ic] at this;exact this
     have e1:∀ x y:Int,rX (oP (below m.toNat) ⟨kk,un,x,y,1,0⟩)=[V.int un,V.int kk,V.int x,V.int y]:=fun x y=>by
       unfold oP;rw [am rfl];show [V.int ((below m.toNat).getD un.toNat 0),V.int ((below m.toNat).getD kk.toNat 0),V.int x,V.int y]=_;rw [lu,lk]
     have e2:∀ x y:Int,rX (oP (below m.toNat) ⟨kk,un,x,y,0,0⟩)=[V.int kk,V.int un,V.int x,V.int y]:=fun x y=>by
       unfold oP;rw [aj (show ¬ (0:Int)=1 by decide)];show [V.int ((below m.toNat).getD kk.toNat 0),V.int ((below m.toNat).getD un.toNat 0),V.int x,V.int y]=_;rw [lu,lk]
     have okR:∀ (x y w:Int),2<=x->x<=1000000->2<=y->y<=1000000->RowOk ⟨kk,un,x,y,w,0⟩:=fun x y w a b c d=>⟨u0,u1,a,b,c,d,i9 _,by show (0:Int)<kk;omega⟩;have both:∀ (th bk:Int) (v5 v7 v8:Option V),2<=th->th<=1000000->2<=bk->bk<=1000000->(tyV K "list" (V.ref lo) H4/\[V.int un,V.int kk,V.int th,V.int bk].length<=sizeLine/\∀ p,H4 p=none->rAppend (V.ref lo) [V.ref p] (upd H4 p (.tup [V.int un,V.int kk,V.int th,V.int bk])) fun _ H1=>N [some (V.ref a),some (V.int m),some (V.int sh),some (V.ref lo),some (V.int kk),v5,some (V.int un),v7,v8] H1)/\(tyV K "list" (V.ref lo) H4/\[V.int kk,V.int un,V.int bk,V.int th].length<=sizeLine/\∀ p,H4 p=none->rInsert (V.ref lo) [V.int 0,V.ref p] (upd H4 p (.tup [V.int kk,V.int un,V.int bk,V.int th])) fun _ H1=>N [some (V.ref a),some (V.int m),some (V.int sh),some (V.ref lo),some (V.int kk),v5,some (V.int un),v7,v8] H1):=fun th bk v5 v7 v8 t0 t1 b0 b1 =>
       ⟨⟨tyL hl4,bn (by simp),fun p hp=>app _ p ⟨kk,un,th,bk,1,0⟩ _ _ _ _ (s4.trans (Same.new _ hp)) rfl (okR _ _ _ t0 t1 b0 b1) (by rw [aq,e1])⟩,⟨tyL hl4,bn (by simp),fun p hp=>ins _ p ⟨kk,un,bk,th,0,0⟩ _ _ _ _ (s4.trans (Same.new _ hp)) rfl (okR _ _ _ b0 b1 t0 t1) (by rw [aq,e2])⟩⟩
     by_cases y1:c / kk / 1000000000000000000 % 3=0
     . rw [am y1];refine ⟨⟨by decide,by decide,by decide⟩,⟨by decide,by decide⟩,by decide,?_⟩;by_cases y2:c / kk / 10000000000000000000 % 2=0
       . rw [am y2];exact (both th th _ _ _ t0 t1 t0 t1).1
       . rw [aj y2];exact (both th th _ _ _ t0 t1 t0 t1).2
     . rw [aj y1];refine ⟨⟨by decide,by decide,by decide⟩,⟨by decide,by decide⟩,by decide,?_⟩;by_cases y2:c / kk / 10000000000000000000 % 2=0
       . rw [am y2];exact (both th bk _ _ _ t0 t1 b0 b1).1
       . rw [aj y2];exact (both th bk _ _ _ t0 t1 b0 b1).2
   . rintro σ H3 ⟨ps,rs,rows,v4,v5,v6,v7,v8,rfl,s3,hl3,ro3,R,P⟩;have g:=cga (n:=m.toNat) (by omega) (by omega) (Rp _) (by rw [show m.toNat - 1=(m - 1).toNat by omega];exact R) P;rw [gf (by omega)] at g;walk_at "rd";exact k lo ps rs H3 nlo s3 hl3 ro3 g
def Gb (T:Txt K mg):Sp:=fun vs H Q _=>∃ (dt a b:Addr) (c d:Bool) (rs:List Road) (xs ys:List Int) (m r:Int),vs=[.ref dt,.int m,.ref a,.ref b,.int r]/\TollsAt H dt rs/\Good m rs/\SqX K c H a (xs.map V.int)/\(xs.length:Int)=m/\SqX K d H b (ys.map V.int)/\(ys.length:Int)=m/\(0<=r/\r<m) /\
 ∀ (l:Addr) (qs:List Addr) (ss:List Stp) (H':Hp),H l=none->Same H H'->H' l=some (.lst (qs.map V.ref))->StepsAt H' qs ss->ss.length<=48->Q (.ref l) H'
abbrev cW:Stmt:=top 60
theorem jW:FnScope ["tolls","many","laying","wish","r","found","order","steps","place","above"] ["tolls","many","laying","wish","r"] (ag cW):=FnScope.of (by kernel_rfl)
theorem mW:NmL (ag cW) "tolls":=.of (by kernel_rfl)
theorem xW:NmL (ag cW) "many":=.of (by kernel_rfl)
theorem EL:NmL (ag cW) "laying":=.of (by kernel_rfl)
theorem Hb:NmL (ag cW) "wish":=.of (by kernel_rfl)
theorem Cu:NmL (ag cW) "r":=.of (by kernel_rfl)
theorem ka:NmL (ag cW) "found":=.of (by kernel_rfl)
theorem rA:NmL (ag cW) "order":=.of (by kernel_rfl)
theorem mT:NmL (ag cW) "steps":=.of (by kernel_rfl)
theorem d6:NmL (ag cW) "place":=.of (by kernel_rfl)
theorem fN:NmL (ag cW) "above":=.of (by kernel_rfl)
theorem pX:NmG (ag cW) "_law_standings":=.of (by kernel_rfl)
theorem uv:NmG (ag cW) "_law_down":=.of (by kernel_rfl)
theorem Cf:NmG (ag cW) "reversed":=.of (by kernel_rfl)
theorem QI (T:Txt K mg) (hq:cr (CXe P w)) {f:Addr} {fd:FuncData} (D:Df K mg "_law_steps" cW ["tolls","many","laying","wish","r"] f fd) {jR:Addr} {sM:FuncData} (iT:Df K mg "_law_down" dX ["tolls","many","r"] jR sM) (r9:FnOk P w K mg base (CXe P w) 1 jR sM ["tolls","many","r"] (AW T)) {dH:Addr} {gK:FuncData} (cK:Df K mg "_law_standings" bO ["tolls","many","laying","wish","r"] dH gK) (gi:FnOk P w K mg base (CXe P w) 2 dH gK ["tolls","many","laying","wish","r"] (pF T)):FnOk P w K mg base (CXe P w) 3 f fd ["tolls","many","laying","wish","r"] (Gb T):=by
 refine D.F.okC jW (fun vs H Q E h=>?_) (fun cdv A outer s H vs Q E hr h=>?_)
 . obtain ⟨dt,a,b,c,d,rs,xs,ys,m,r,rfl,_⟩:=h
   rfl
 . obtain ⟨dt,a,b,c,d,rs,xs,ys,m,r,rfl,ta,g,ha,xl,hb,yl,rr,k⟩:=h;have hu:=Ar hr;have m24:=g.m24;obtain ⟨par,dep,R⟩:=B4 g rr.1 rr.2;refine ⟨_,(aF (bz (i:=5) jW.nd rfl (Or.inl ka.l) (aZ gi (hr.mono (by decide)) pX.g cK.m cK.F.kp cK.b .nil (cJ hq) (ah (pvl 0 mW) (ah (pvl 1 xW) (ah (pvl 2 EL) (ah (pvl 3 Hb) (ah (pvl 4 Cu) ax))))) (hdb:=pX.d))) (aF (bz (i:=6) jW.nd rfl (Or.inl rA.l) (aZ r9 (hr.mono (by decide)) uv.g iT.m iT.F.kp iT.b .nil (cJ hq) (ah (pvl 0 mW) (ah (pvl 1 xW) (ah (pvl 4 Cu) ax))) (hdb:=uv.d))) (aF (bz (i:=7) jW.nd rfl (Or.inl mT.l) (eE ax)) (aF (gB PassesOwn.never rfl (J0 Cf.g T.reversed (pvl 6 rA)) (rf (n:=2) rfl (c7 (bE (i:=8) jW.nd rfl (Or.inl d6.l)) (c7 (bE (i:=9) jW.nd rfl (Or.inl fN.l)) oF))) (aN (eN (PW.pt (rK (yN (Cj (pvl 9 fN))) (rZ (cn yc (bu b9 (pvl 5 ka) (pvl 8 d6) (fun _ _=>rfl)) (yA hu (pvl 0 mW) (dD (ah (pvl 8 d6) (ah (pvl 9 fN) ax))) (fun _ _=>rfl)) (b7 _))))) (aN (dy (ki PySem.F.plainAttrs_list PySem.F.slot_list_append PySem.F.type_list_append eI (pvl 7 mT) (ah (dD (ah (pvl 8 d6) (ah (pvl 9 fN) (ah (aX gO (bu b9 (pvl 5 ka) (pvl 8 d6) (fun _ _=>rfl)) (yA hu (pvl 0 mW) (dD (ah (pvl 8 d6) (ah (pvl 9 fN) ax))) (fun _ _=>rfl))) ax)))) ax)))) cU))) (aF (gB PassesOwn.never rfl (mI (pvl 6 rA)) (rf (n:=2) rfl (c7 (bE (i:=8) jW.nd rfl (Or.inl d6.l)) (c7 (bE (i:=9) jW.nd rfl (Or.inl fN.l)) oF))) (aN (eN (PW.pt (rK (yN (Cj (pvl 9 fN))) (rZ (cn Ah (bu b9 (pvl 5 ka) (pvl 8 d6) (fun _ _=>rfl)) aH (b7 _))))) (aN (dy (ki PySem.F.plainAttrs_list PySem.F.slot_list_append PySem.F.type_list_append eI (pvl 7 mT) (ah (dD (ah (pvl 9 fN) (ah (pvl 8 d6) (ah (aX pb aH (bu b9 (pvl 5 ka) (pvl 8 d6) (fun _ _=>rfl))) ax)))) ax)))) cU))) (aN (b5 (pvl 7 mT)))))))),?_⟩;rw [show L2.start ["tolls","many","laying","wish","r","found","order","steps","place","above"] [V.ref dt,V.int m,V.ref a,V.ref b,V.int r]=[some (V.ref dt),some (V.int m),some (V.ref a),some (V.ref b),some (V.int r),none,none,none,none,none] from rfl];refine ft fun N0 h0=>?_;walk_at "rd";refine ⟨dt,a,b,c,d,rs,xs,ys,m,r,rfl,ta,g,ha,xl,hb,yl,rr,par,dep,R,fun lf H1 nf s1 ef=>h0 _ _ (ft fun N1 h1=>?_)⟩;walk_at "rd";refine ⟨dt,rs,m,r,rfl,ta.same s1,g,rr,par,dep,R,fun lo qo t H2 no s2 eo pa O=>h1 _ _ (ft fun N2 h2=>?_)⟩;have cl:(sF m rs r par dep (fun v=>(jg m xs ys).getD v.toNat 0) (hnd rs par)).length=m.toNat:=by unfold sF;rw [ak,eD]
   generalize sF m rs r par dep (fun v=>(jg m xs ys).getD v.toNat 0) (hnd rs par)=cs at ef cl;have ef2:=s2 _ _ ef;have t2:=s1.trans s2;have tlen:=O.perm_len rr.1 rr.2;have ql:qo.length=(r::t).length:=Paired.length pa;have rng:∀ u∈r::t,0<=u/\u<m:=fun u hu=>by
     rcases az.mp hu with z|z
     . rw [z];exact rr
     . exact O.rng u z
   walk_at "rd";refine ⟨bn (by simp),fun l nl=>h2 _ _ (ft fun N3 h3=>?_)⟩;have nl0:H l=none:=t2.free nl;have s3:=Same.new (HO.lst []) nl;have e3:upd H2 l (HO.lst []) l=some (.lst (([]:List Addr).map V.ref)):=aq;have nlo:lo≠l:=fun z=>by rw [<- z,eo] at nl;cases nl
   have nlf:lf≠l:=fun z=>by rw [<- z,ef2] at nl;cases nl
   have t3:=t2.trans s3;have ef3:=s3 _ _ ef2;have eo3:=s3 _ _ eo;have pa3:PrsAt (upd H2 l (HO.lst [])) r par qo (r::t):=Paired.imp' (fun a b h=>s3 _ _ h) pa;generalize upd H2 l (HO.lst [])=H3 at t3 e3 ef3 eo3 pa3 ⊢;clear s1 s2 s3 ef ef2 eo pa h0 h1 h2 nl t2;walk_at "rd";refine ⟨_,SqL.of eo3,?_⟩;refine Jy (K:=K) (xs:=qo.map V.ref) (fun i σ H5=>Same H H5/\H5 lf=some (.lst (cs.map V.int))/\H5 lo=some (.lst (qo.map V.ref))/\PrsAt H5 r par qo (r::t)/\(∃ qs ss,H5 l=some (.lst (qs.map V.ref))/\StepsAt H5 qs ss/\ss.length<=i)/\∃ v8 v9,σ=[some (V.ref dt),some (V.int m),some (V.ref a),some (V.ref b),some (V.int r),some (V.ref lf),some (V.ref lo),some (V.ref l),v8,v9]) ⟨t3,ef3,eo3,pa3,⟨[],[],e3,.nil,aA _⟩,_,_,rfl⟩ (fun i σ H5 _ z=>SqL.of z.2.2.1) ?_ ?_
   . rintro i x σ H5 N hN hx ⟨t5,ef5,eo5,pa5,⟨qs,ss,e5,L5,l5⟩,v8,v9,rfl⟩;have il:=(aB.mp hx).1;rw [bj,ak,ql] at il;rw [dz (by rw [ak,ql];exact il),ak,ql] at hx;obtain ⟨q,v,rfl,hq,hv,eq⟩:=pa5.get hx;have vr:=rng v (bd hv);have qsl:qs.length=ss.length:=Paired.length L5;rw [aQ] at il;refine bNa (SqT.of eq) ?_;refine GS fun NA NB kA kB=>?_;walk_at "rd";have no:∀ H6,Same H5 H6->NB [some (V.ref dt),some (V.int m),some (V.ref a),some (V.ref b),some (V.int r),some (V.ref lf),some (V.ref lo),some (V.ref l),some (V.int v),some (Pb.front r par v)] H6:=fun H6 s6=>by
       refine kB _ _ ?_;walk_at "rd";exact hN _ _ ⟨t5.trans s6,s6 _ _ ef5,s6 _ _ eo5,Paired.imp' (fun a b h=>s6 _ _ h) pa5,⟨qs,ss,s6 _ _ e5,L5.same s6,by omega⟩,_,_,rfl⟩
     by_cases vn:v=r
     . have fv:Pb.front r par v=V.non:=(by unfold Pb.front;rw [am vn]);rw [aj (fun z=>z fv)];exact no H5 (Same.refl _)
     have fv:Pb.front r par v=V.int (par v):=(by unfold Pb.front;rw [aj vn]);rw [fv] at no ⊢;rw [am (by intro z;cases z)];obtain ⟨kk,hk,k0,k1⟩:=LY g R vr.1 vr.2 vn;have get:∀ (G:Hp) (q':Addr),Same H G->G q'=none->DGet (upd G q' (.tup [V.int v,V.int (par v)])) dt (V.ref q') (some (V.int kk)):=fun G q' sG nq'=>by
       obtain ⟨kvs,hkv,hv2⟩:=(ta.same sG).ex;have hg:=DGet.t (k:=[.inl v,.inl (par v)]) (Same.new (.tup [V.int v,V.int (par v)]) nq' _ _ hkv) aq;rw [hv2,hk] at hg;exact hg
     have gv:=atG (xs:=cs) vr.1 (by omega);refine ixL ef5 gv ⟨bn (by simp),fun q' nq'=>⟨_,get H5 q' t5 nq',_,rfl,_,rfl,?_⟩⟩;have s6:=Same.new (.tup [V.int v,V.int (par v)]) nq';generalize upd H5 q' (.tup [V.int v,V.int (par v)])=H6 at s6 ⊢;by_cases cp:kk<=cs.getD v.toNat 0
     . rw [am cp];refine kA _ _ ?_;walk_at "rd";refine ⟨tyL (s6 _ _ e5),ixL (s6 _ _ ef5) gv ⟨bn (by simp),fun q2 nq2=>⟨_,get H6 q2 (t5.trans s6) nq2,_,rfl,_,rfl,⟨by omega,by omega⟩,bn (by simp),fun q3 nq3=>?_⟩⟩⟩;have s7:=s6.trans (Same.new (.tup [V.int v,V.int (par v)]) nq2);generalize upd H6 q2 (.tup [V.int v,V.int (par v)])=H7 at s7 nq3 ⊢;have s8:=s7.trans (Same.new (HO.tup [V.int v,V.int (par v),V.int (cs.getD v.toNat 0 / kk)]) nq3);have L8:=lO (st:=(v,par v,cs.getD v.toNat 0 / kk)) (show upd H7 q3 (HO.tup [V.int v,V.int (par v),V.int (cs.getD v.toNat 0 / kk)]) q3=_ from aq) s8 L5;generalize upd H7 q3 (HO.tup [V.int v,V.int (par v),V.int (cs.getD v.toNat 0 / kk)])=H8 at s8 L8 ⊢;have e8:=s8 _ _ e5;have up:∀ {b:Addr} {y:HO},H8 b=some y->b≠l->upd H8 l (.lst (qs.map V.ref++[V.ref q3])) b=some y:=fun e n=>by rw [aR n];exact e
       refine uY e8 (gk (by rw [ak];omega)) (hN _ _ ⟨(t5.trans s8).put nl0 _,up (s8 _ _ ef5) nlf,up (s8 _ _ eo5) nlo,Paired.imp' (fun a b h=>up (s8 _ _ h) (lA (s8 _ _ h) e8 (by intro z;cases z))) pa5,⟨qs++[q3],ss++[(v,par v,cs.getD v.toNat 0 / kk)],by rw [aq,aK];rfl,Paired.imp' (fun a b h=>up h (lA h e8 (by intro z;cases z))) L8,by rw [au];show ss.length+1<=i+1;omega⟩,_,_,rfl⟩)
     . rw [aj cp];exact no H6 s6
   . rintro σ H5 ⟨t5,ef5,eo5,pa5,⟨qs,ss,e5,L5,l5⟩,v8,v9,rfl⟩;refine h3 _ _ ?_;rw [ak,ql,aQ] at l5;walk_at "rd";refine ⟨⟨_,SqL.of eo5⟩,?_⟩;refine rg (K:=K) (xs:=qo.map V.ref) (fun i σ H6=>Same H H6/\H6 lf=some (.lst (cs.map V.int))/\H6 lo=some (.lst (qo.map V.ref))/\PrsAt H6 r par qo (r::t)/\(∃ qs ss,H6 l=some (.lst (qs.map V.ref))/\StepsAt H6 qs ss/\ss.length<=t.length+1+i)/\∃ v8 v9,σ=[some (V.ref dt),some (V.int m),some (V.ref a),some (V.ref b),some (V.int r),some (V.ref lf),some (V.ref lo),some (V.ref l),v8,v9]) ⟨t5,ef5,eo5,pa5,⟨qs,ss,e5,L5,l5⟩,_,_,rfl⟩ (fun i σ H6 _ z=>SqL.of z.2.2.1) ?_ ?_
     . rintro i x σ H6 N BB hBB hN hx ⟨t6,ef6,eo6,pa6,⟨qs6,ss6,e6,L6,l6⟩,u8,u9,rfl⟩;obtain ⟨q,v,rfl,hq,hv,eq⟩:=pa6.get hx;have il:=(aB.mp hq).1;rw [ql,aQ] at il;have vr:=rng v (bd hv);have qsl:qs6.length=ss6.length:=Paired.length L6;refine hBB _ _ ?_;refine bNa (SqT.of eq) ?_;refine GS fun NA NB kA kB=>?_;walk_at "rd";have no:NB [some (V.ref dt),some (V.int m),some (V.ref a),some (V.ref b),some (V.int r),some (V.ref lf),some (V.ref lo),some (V.ref l),some (V.int v),some (Pb.front r par v)] H6:=by
         refine kB _ _ ?_;walk_at "rd";exact hN _ _ ⟨t6,ef6,eo6,pa6,⟨qs6,ss6,e6,L6,by omega⟩,_,_,rfl⟩
       by_cases vn:v=r
       . have fv:Pb.front r par v=V.non:=(by unfold Pb.front;rw [am vn]);rw [aj (fun z=>z fv)];exact no
       have fv:Pb.front r par v=V.int (par v):=(by unfold Pb.front;rw [aj vn]);rw [fv] at no ⊢;rw [am (by intro z;cases z)];have gv:=atG (xs:=cs) vr.1 (by omega);refine ixL ef6 gv ⟨_,rfl,?_⟩;by_cases cp:cs.getD v.toNat 0<0
       . rw [am cp];refine kA _ _ ?_;walk_at "rd";refine ⟨tyL e6,ixL ef6 gv ⟨_,rfl,bn (by simp),fun q3 nq3=>?_⟩⟩;have s8:=Same.new (HO.tup [V.int (par v),V.int v,V.int (0 - cs.getD v.toNat 0)]) nq3;have L8:=lO (st:=(par v,v,0 - cs.getD v.toNat 0)) (show upd H6 q3 (HO.tup [V.int (par v),V.int v,V.int (0 - cs.getD v.toNat 0)]) q3=_ from aq) s8 L6;generalize upd H6 q3 (HO.tup [V.int (par v),V.int v,V.int (0 - cs.getD v.toNat 0)])=H8 at s8 L8 ⊢;have e8:=s8 _ _ e6;have up:∀ {b:Addr} {y:HO},H8 b=some y->b≠l->upd H8 l (.lst (qs6.map V.ref++[V.ref q3])) b=some y:=fun e n=>by rw [aR n];exact e
         refine uY e8 (gk (by rw [ak];omega)) (hN _ _ ⟨(t6.trans s8).put nl0 _,up (s8 _ _ ef6) nlf,up (s8 _ _ eo6) nlo,Paired.imp' (fun a b h=>up (s8 _ _ h) (lA (s8 _ _ h) e8 (by intro z;cases z))) pa6,⟨qs6++[q3],ss6++[(par v,v,0 - cs.getD v.toNat 0)],by rw [aq,aK];rfl,Paired.imp' (fun a b h=>up h (lA h e8 (by intro z;cases z))) L8,by rw [au];show ss6.length+1<=_;omega⟩,_,_,rfl⟩)
       . rw [aj cp];exact no
     . rintro BB σ H6 hBB ⟨t6,ef6,eo6,pa6,⟨qs6,ss6,e6,L6,l6⟩,u8,u9,rfl⟩;refine hBB _ _ ?_;rw [ak,ql,aQ] at l6;walk_at "rd";exact k l qs6 ss6 H6 nl0 t6 e6 L6 (by omega)
def wT (T:Txt K mg):Sp:=fun vs H Q _=>∃ (q:Addr) (st:Stp) (cell m:Int),vs=[.ref q,.int cell,.int m]/\H q=some (.tup (vSt st))/\1<=m/\∀ q' st' H',Same H H'->H' q'=some (.tup (vSt st'))->Q (.ref q') H'
abbrev cj:Stmt:=top 61
theorem jT:FnScope ["step","cell","many","a","b","often","some"] ["step","cell","many"] (ag cj):=FnScope.of (by kernel_rfl)
theorem zZ:NmL (ag cj) "step":=.of (by kernel_rfl)
theorem z9:NmL (ag cj) "cell":=.of (by kernel_rfl)
theorem sg:NmL (ag cj) "many":=.of (by kernel_rfl)
theorem dq:NmL (ag cj) "a":=.of (by kernel_rfl)
theorem eY:NmL (ag cj) "b":=.of (by kernel_rfl)
theorem cC:NmL (ag cj) "often":=.of (by kernel_rfl)
theorem jh:NmL (ag cj) "some":=.of (by kernel_rfl)
theorem nP:NmG (ag cj) "len":=.of (by kernel_rfl)
theorem FB (T:Txt K mg) (hq:cr (CXe P w)) {f:Addr} {fd:FuncData} (D:Df K mg "_law_step_spoilt" cj ["step","cell","many"] f fd):FnOk P w K mg base (CXe P w) 1 f fd ["step","cell","many"] (wT T):=by
 refine D.F.okC jT (fun vs H Q E h=>?_) (fun cdv A outer s H vs Q E hr h=>?_)
 . obtain ⟨q,st,cell,m,rfl,_⟩:=h
   rfl
 . obtain ⟨q,⟨sa,sb,sn⟩,cell,m,rfl,hq',m1,k⟩:=h;have hv:=hr.units;refine ⟨_,(aF (rL (pvl 0 zZ) (rf (n:=3) rfl (c7 (bE (i:=3) jT.nd rfl (Or.inl dq.l)) (c7 (bE (i:=4) jT.nd rfl (Or.inl eY.l)) (c7 (bE (i:=5) jT.nd rfl (Or.inl cC.l)) oF))))) (aF (bz (i:=6) jT.nd rfl (Or.inl jh.l) (eE (ah (dD (ah (pvl 3 dq) (ah (pvl 4 eY) (ah (aX jt (pvl 5 cC) aH) ax)))) (ah (dD (ah (pvl 3 dq) (ah (pvl 4 eY) (ah (aX pb (pvl 5 cC) aH) ax)))) (ah (dD (ah (pvl 4 eY) (ah (pvl 3 dq) (ah (pvl 5 cC) ax)))) (ah (dD (ah (pvl 3 dq) (ah (pvl 3 dq) (ah (pvl 5 cC) ax)))) (ah (dD (ah (pvl 3 dq) (ah (pvl 2 sg) (ah (pvl 5 cC) ax)))) (ah (dD (ah (GO B9 aH) (ah (pvl 4 eY) (ah (pvl 5 cC) ax)))) ax)))))))) (aF (dy (ki PySem.F.plainAttrs_list PySem.F.slot_list_extend PySem.F.type_list_extend V7 (pvl 6 jh) (ah (eE (ah (dD (ah (pvl 3 dq) (ah (pvl 4 eY) (ah (aX jt (pvl 5 cC) (aX tF aH aH)) ax)))) (ah (dD (ah (pvl 3 dq) (ah (pvl 4 eY) (ah (aX pb aH (pvl 5 cC)) ax)))) (ah (dD (ah (pvl 3 dq) (ah (aX dU (aX jt (pvl 4 eY) aH) (pvl 2 sg)) (ah (pvl 5 cC) ax)))) ax)))) ax))) (aN (b5 (bu b9 (pvl 6 jh) (aX dU (pvl 1 z9) (fG fV nP.g T.len oV (ah (pvl 6 jh) ax) (hn:=nP.n) (hdb:=nP.d))) (fun _ _=>rfl))))))),?_⟩;rw [show L2.start ["step","cell","many","a","b","often","some"] [V.ref q,V.int cell,V.int m]=[some (V.ref q),some (V.int cell),some (V.int m),none,none,none,none] from rfl];refine ft fun N0 h0=>?_;walk_at "rd";refine ⟨_,SqT.of hq',rfl,_,_,rfl,_,_,rfl,_,_,rfl,rfl,h0 _ _ (ft fun N1 h1=>?_)⟩;walk_at "rd";have L0:StepsAt H [] []:=.nil;refine ⟨bn (by simp),fun p1 n1=>?_⟩;have s1:=Same.new (HO.tup [V.int sa,V.int sb,V.int (sn+1)]) n1;have e1:upd H p1 (HO.tup [V.int sa,V.int sb,V.int (sn+1)]) p1=some (.tup (vSt (⟨sa,sb,sn+1⟩:Stp))):=aq;generalize upd H p1 (HO.tup [V.int sa,V.int sb,V.int (sn+1)])=H1 at s1 e1 ⊢;have L1:StepsAt H1 [p1] [(⟨sa,sb,sn+1⟩:Stp)]:=lO e1 s1 L0;have t1:=s1;clear s1 e1;refine ⟨bn (by simp),fun p2 n2=>?_⟩;have s2:=Same.new (HO.tup [V.int sa,V.int sb,V.int (sn - 1)]) n2;have e2:upd H1 p2 (HO.tup [V.int sa,V.int sb,V.int (sn - 1)]) p2=some (.tup (vSt (⟨sa,sb,sn - 1⟩:Stp))):=aq;generalize upd H1 p2 (HO.tup [V.int sa,V.int sb,V.int (sn - 1)])=H2 at s2 e2 ⊢;have L2:StepsAt H2 [p1,p2] [(⟨sa,sb,sn+1⟩:Stp),(⟨sa,sb,sn - 1⟩:Stp)]:=lO e2 s2 L1;have t2:=t1.trans s2;clear s2 e2;refine ⟨bn (by simp),fun p3 n3=>?_⟩;have s3:=Same.new (HO.tup [V.int sb,V.int sa,V.int sn]) n3;have e3:upd H2 p3 (HO.tup [V.int sb,V.int sa,V.int sn]) p3=some (.tup (vSt (⟨sb,sa,sn⟩:Stp))):=aq;generalize upd H2 p3 (HO.tup [V.int sb,V.int sa,V.int sn])=H3 at s3 e3 ⊢;have L3:StepsAt H3 [p1,p2,p3] [(⟨sa,sb,sn+1⟩:Stp),(⟨sa,sb,sn - 1⟩:Stp),(⟨sb,sa,sn⟩:Stp)]:=lO e3 s3 L2;have t3:=t2.trans s3;clear s3 e3;refine ⟨bn (by simp),fun p4 n4=>?_⟩;have s4:=Same.new (HO.tup [V.int sa,V.int sa,V.int sn]) n4;have e4:upd H3 p4 (HO.tup [V.int sa,V.int sa,V.int sn]) p4=some (.tup (vSt (⟨sa,sa,sn⟩:Stp))):=aq;generalize upd H3 p4 (HO.tup [V.int sa,V.int sa,V.int sn])=H4 at s4 e4 ⊢;have L4:StepsAt H4 [p1,p2,p3,p4] [(⟨sa,sb,sn+1⟩:Stp),(⟨sa,sb,sn - 1⟩:Stp),(⟨sb,sa,sn⟩:Stp),(⟨sa,sa,sn⟩:Stp)]:=lO e4 s4 L3;have t4:=t3.trans s4;clear s4 e4;refine ⟨bn (by simp),fun p5 n5=>?_⟩;have s5:=Same.new (HO.tup [V.int sa,V.int m,V.int sn]) n5;have e5:upd H4 p5 (HO.tup [V.int sa,V.int m,V.int sn]) p5=some (.tup (vSt (⟨sa,m,sn⟩:Stp))):=aq;generalize upd H4 p5 (HO.tup [V.int sa,V.int m,V.int sn])=H5 at s5 e5 ⊢;have L5:StepsAt H5 [p1,p2,p3,p4,p5] [(⟨sa,sb,sn+1⟩:Stp),(⟨sa,sb,sn - 1⟩:Stp),(⟨sb,sa,sn⟩:Stp),(⟨sa,sa,sn⟩:Stp),(⟨sa,m,sn⟩:Stp)]:=lO e5 s5 L4;have t5:=t4.trans s5;clear s5 e5;refine ⟨bn (by simp),fun p6 n6=>?_⟩;have s6:=Same.new (HO.tup [V.int (-1),V.int sb,V.int sn]) n6;have e6:upd H5 p6 (HO.tup [V.int (-1),V.int sb,V.int sn]) p6=some (.tup (vSt (⟨-1,sb,sn⟩:Stp))):=aq;generalize upd H5 p6 (HO.tup [V.int (-1),V.int sb,V.int sn])=H6 at s6 e6 ⊢;have L6:StepsAt H6 [p1,p2,p3,p4,p5,p6] [(⟨sa,sb,sn+1⟩:Stp),(⟨sa,sb,sn - 1⟩:Stp),(⟨sb,sa,sn⟩:Stp),(⟨sa,sa,sn⟩:Stp),(⟨sa,m,sn⟩:Stp),(⟨-1,sb,sn⟩:Stp)]:=lO e6 s6 L5;have t6:=t5.trans s6;clear s6 e6;refine ⟨bn (by simp),fun pl nl=>h1 _ _ (ft fun N2 h2=>?_)⟩;have sl:=Same.new (HO.lst [V.ref p1,V.ref p2,V.ref p3,V.ref p4,V.ref p5,V.ref p6]) nl;have el:upd H6 pl (HO.lst [V.ref p1,V.ref p2,V.ref p3,V.ref p4,V.ref p5,V.ref p6]) pl=some (.lst ([p1,p2,p3,p4,p5,p6].map V.ref)):=aq;generalize upd H6 pl (HO.lst [V.ref p1,V.ref p2,V.ref p3,V.ref p4,V.ref p5,V.ref p6])=G at sl el ⊢;have LG:=StepsAt.same sl L6;have nl0:H pl=none:=t6.free nl;have tG:=t6.trans sl;clear L0 L1 L2 L3 L4 L5 L6 t1 t2 t3 t4 t5 t6;walk_at "rd";refine ⟨tyL el,⟨by decide,by decide,by decide⟩,?_⟩;refine ⟨bn (by simp),fun p7 n7=>?_⟩;have s7:=Same.new (HO.tup [V.int sa,V.int sb,V.int (sn+10^Int.toNat 20)]) n7;have e7:upd G p7 (HO.tup [V.int sa,V.int sb,V.int (sn+10^Int.toNat 20)]) p7=some (.tup (vSt (⟨sa,sb,sn+10^Int.toNat 20⟩:Stp))):=aq;generalize upd G p7 (HO.tup [V.int sa,V.int sb,V.int (sn+10^Int.toNat 20)])=H7 at s7 e7 ⊢;have L7:StepsAt H7 [p1,p2,p3,p4,p5,p6,p7] [(⟨sa,sb,sn+1⟩:Stp),(⟨sa,sb,sn - 1⟩:Stp),(⟨sb,sa,sn⟩:Stp),(⟨sa,sa,sn⟩:Stp),(⟨sa,m,sn⟩:Stp),(⟨-1,sb,sn⟩:Stp),(⟨sa,sb,sn+10^Int.toNat 20⟩:Stp)]:=lO e7 s7 LG;have el7:=s7 _ _ el;have t7:=tG.trans s7;clear s7 e7;refine ⟨bn (by simp),fun p8 n8=>?_⟩;have s8:=Same.new (HO.tup [V.int sa,V.int sb,V.int (0 - sn)]) n8;have e8:upd H7 p8 (HO.tup [V.int sa,V.int sb,V.int (0 - sn)]) p8=some (.tup (vSt (⟨sa,sb,0 - sn⟩:Stp))):=aq;generalize upd H7 p8 (HO.tup [V.int sa,V.int sb,V.int (0 - sn)])=H8 at s8 e8 ⊢;have L8:StepsAt H8 [p1,p2,p3,p4,p5,p6,p7,p8] [(⟨sa,sb,sn+1⟩:Stp),(⟨sa,sb,sn - 1⟩:Stp),(⟨sb,sa,sn⟩:Stp),(⟨sa,sa,sn⟩:Stp),(⟨sa,m,sn⟩:Stp),(⟨-1,sb,sn⟩:Stp),(⟨sa,sb,sn+10^Int.toNat 20⟩:Stp),(⟨sa,sb,0 - sn⟩:Stp)]:=lO e8 s8 L7;have el8:=s8 _ _ el7;have t8:=t7.trans s8;clear s8 e8;refine ⟨by omega,?_⟩;refine ⟨bn (by simp),fun p9 n9=>?_⟩;have s9:=Same.new (HO.tup [V.int sa,V.int ((sb+1) % m),V.int sn]) n9;have e9:upd H8 p9 (HO.tup [V.int sa,V.int ((sb+1) % m),V.int sn]) p9=some (.tup (vSt (⟨sa,(sb+1) % m,sn⟩:Stp))):=aq;generalize upd H8 p9 (HO.tup [V.int sa,V.int ((sb+1) % m),V.int sn])=H9 at s9 e9 ⊢;have L9:StepsAt H9 [p1,p2,p3,p4,p5,p6,p7,p8,p9] [(⟨sa,sb,sn+1⟩:Stp),(⟨sa,sb,sn - 1⟩:Stp),(⟨sb,sa,sn⟩:Stp),(⟨sa,sa,sn⟩:Stp),(⟨sa,m,sn⟩:Stp),(⟨-1,sb,sn⟩:Stp),(⟨sa,sb,sn+10^Int.toNat 20⟩:Stp),(⟨sa,sb,0 - sn⟩:Stp),(⟨sa,(sb+1) % m,sn⟩:Stp)]:=lO e9 s9 L8;have el9:=s9 _ _ el8;have t9:=t8.trans s9;clear s9 e9;refine ⟨bn (by simp),fun pe ne=>?_⟩;have se:=Same.new (HO.lst [V.ref p7,V.ref p8,V.ref p9]) ne;have ee:upd H9 pe (HO.lst [V.ref p7,V.ref p8,V.ref p9]) pe=some (.lst ([p7,p8,p9].map V.ref)):=aq;have tl:=t9.trans se;have LE:=StepsAt.same se L9;have elE:=se _ _ el9;generalize upd H9 pe (HO.lst [V.ref p7,V.ref p8,V.ref p9])=G2 at tl LE elE ee ⊢;refine ⟨pl,pe,_,_,rfl,rfl,elE,ee,bn (by simp),h2 _ _ ?_⟩;rw [<- aK];have t3:Same H (upd G2 pl (HO.lst (([p1,p2,p3,p4,p5,p6]++[p7,p8,p9]).map V.ref))):=tl.put nl0 _;have L3:StepsAt (upd G2 pl (HO.lst (([p1,p2,p3,p4,p5,p6]++[p7,p8,p9]).map V.ref))) [p1,p2,p3,p4,p5,p6,p7,p8,p9] _:=Paired.imp' (fun b s hb=>by rw [aR (lA hb elE (by intro z;cases z))];exact hb) LE;have e3:upd G2 pl (HO.lst (([p1,p2,p3,p4,p5,p6]++[p7,p8,p9]).map V.ref)) pl=some (.lst ([p1,p2,p3,p4,p5,p6,p7,p8,p9].map V.ref)):=aq;generalize upd G2 pl (HO.lst (([p1,p2,p3,p4,p5,p6]++[p7,p8,p9]).map V.ref))=G3 at t3 L3 e3 ⊢;walk_at "rd";refine ⟨_,.inl (SqL.of e3),?_⟩;have c0:=bx cell (show (9:Int)≠0 by decide);have c1:=bC cell (show (0:Int)<9 by decide);obtain ⟨j,hj,j9⟩:∃ j:Nat,cell % 9=(j:Int)/\j<9:=⟨(cell % 9).toNat,by omega,by omega⟩;have gj:([p1,p2,p3,p4,p5,p6,p7,p8,p9].map V.ref)[j]?=some (([p1,p2,p3,p4,p5,p6,p7,p8,p9].map V.ref)[j]'(by simpa using j9)):=aD _;obtain ⟨q',st',e4,_,_,e5⟩:=L3.get gj;refine ⟨by show (0:Int)<9;decide,?_⟩;show Mt K (V.ref pl) (V.int (cell % 9)) G3 _;rw [hj];refine ixL e3 (Mc (gj.trans (congrArg some e4))) ?_;exact k q' st' G3 t3 e5
theorem Xq {H:Hp} {d:Addr} {m:Int} {rs:List Road} (g:Good m rs) (ta:TollsAt H d rs):∃ (kvs:List (List Key × V)) (kss:List (List Int)),H d=some (.dT kvs)/\kvs.map (·.1)=kss.map (·.map Sum.inl)/\kss.length<64/\∀ k∈kss,∃ a b,k=[a,b]:=by
 obtain ⟨kvs,h1,h2⟩:=ta.ex;obtain ⟨kws,h3,h4,h5⟩:=ta.ks;rw [h1] at h3;cases h3;have gl:=g.len;have m24:=g.m24;refine ⟨kvs,kvs.map fun p=>p.1.map dga,h1,?_,by rw [ak];omega,fun k hk=>?_⟩
 . rw [mj];refine ku fun p hp=>?_;obtain ⟨a,b,e⟩:=h5 p hp;show p.1=(p.1.map dga).map Sum.inl;rw [e]
   rfl
 . obtain ⟨p,hp,rfl⟩:=cu.mp hk;obtain ⟨a,b,e⟩:=h5 p hp;exact ⟨a,b,by rw [e];rfl⟩
def xY (T:Txt K mg):Sp:=fun vs H Q _=>∃ (ls dt:Addr) (qs:List Addr) (ss:List Stp) (rs:List Road) (cell m:Int),vs=[.ref ls,.ref dt,.int cell,.int m]/\H ls=some (.lst (qs.map V.ref))/\StepsAt H qs ss/\ss.length<=48/\TollsAt H dt rs/\Good m rs /\
 ∀ (lt:Addr) (as:List Addr) (H':Hp),H lt=none->Same H H'->H' lt=some (.lst (as.map V.ref))->as.length<=11->StsAll H' as->Q (.ref lt) H'
abbrev bT:Stmt:=top 62
theorem om:FnScope ["steps","tolls","cell","many","told","road","at"] ["steps","tolls","cell","many"] (ag bT):=FnScope.of (by kernel_rfl)
theorem bN:NmL (ag bT) "steps":=.of (by kernel_rfl)
theorem Aa:NmL (ag bT) "tolls":=.of (by kernel_rfl)
theorem sZ:NmL (ag bT) "cell":=.of (by kernel_rfl)
theorem AU:NmL (ag bT) "many":=.of (by kernel_rfl)
theorem d8:NmL (ag bT) "told":=.of (by kernel_rfl)
theorem fh:NmL (ag bT) "road":=.of (by kernel_rfl)
theorem eZ:NmL (ag bT) "at":=.of (by kernel_rfl)
theorem lY:NmG (ag bT) "sorted":=.of (by kernel_rfl)
theorem gw:NmG (ag bT) "len":=.of (by kernel_rfl)
theorem lJ:NmG (ag bT) "_law_step_spoilt":=.of (by kernel_rfl)
theorem AK:NmG (ag bT) "list":=.of (by kernel_rfl)
theorem xH:NmG (ag bT) "reversed":=.of (by kernel_rfl)
theorem Hv (T:Txt K mg) (hq:cr (CXe P w)) {f:Addr} {fd:FuncData} (D:Df K mg "_law_steps_else" bT ["steps","tolls","cell","many"] f fd) {gS:Addr} {wP:FuncData} (iZ:Df K mg "_law_step_spoilt" cj ["step","cell","many"] gS wP) (si:FnOk P w K mg base (CXe P w) 1 gS wP ["step","cell","many"] (wT T)):FnOk P w K mg base (CXe P w) 2 f fd ["steps","tolls","cell","many"] (xY T):=by
 refine D.F.okC om (fun vs H Q E h=>?_) (fun cdv A outer s H vs Q E hr h=>?_)
 . obtain ⟨ls,dt,qs,ss,rs,cell,m,rfl,_⟩:=h
   rfl
 . obtain ⟨ls,dt,qs,ss,rs,cell,m,rfl,hls,L,sl,ta,g,k⟩:=h;have hu:=Ar hr;have hv:=hr.units;have m1:=g.m1;have m24:=g.m24;have qsl:qs.length=ss.length:=Paired.length L;refine ⟨_,(aF (bz (i:=4) om.nd rfl (Or.inl d8.l) (eE (ah (pvl 0 bN) (ah (eE ax) (ah (aX sY (pvl 0 bN) (eE (ah (dD (ah aH (ah aH (ah aH ax)))) ax))) ax))))) (aF (gB PassesOwn.never rfl (mI (nL qm (fG (QM rfl) lY.g T.sorted Fo (ah (pvl 1 Aa) ax) (hn:=lY.n) (hdb:=lY.d)) qr (qc aH))) (bE (i:=5) om.nd rfl (Or.inl fh.l)) (aF (dy (ki PySem.F.plainAttrs_list PySem.F.slot_list_append PySem.F.type_list_append eI (pvl 4 d8) (ah (aX sY (pvl 0 bN) (eE (ah (dD (ah (bu dR (pvl 5 fh) aH (fun _ _=>rfl)) (ah (bu dR (pvl 5 fh) aH (fun _ _=>rfl)) (ah aH ax)))) ax))) ax))) (aN (dy (ki PySem.F.plainAttrs_list PySem.F.slot_list_append PySem.F.type_list_append eI (pvl 4 d8) (ah (aX sY (eE (ah (dD (ah (bu dR (pvl 5 fh) aH (fun _ _=>rfl)) (ah (bu dR (pvl 5 fh) aH (fun _ _=>rfl)) (ah aH ax)))) (ah (dD (ah (bu dR (pvl 5 fh) aH (fun _ _=>rfl)) (ah (bu dR (pvl 5 fh) aH (fun _ _=>rfl)) (ah aH ax)))) ax))) (pvl 0 bN)) ax)))))) (aF (eN (cn KI (fG fV gw.g T.len oV (ah (pvl 0 bN) ax) (hn:=gw.n) (hdb:=gw.d)) aH (b7 _)) (aF (bz (i:=6) om.nd rfl (Or.inl eZ.l) (aX dU (aX gO (pvl 2 sZ) aH) (fG fV gw.g T.len oV (ah (pvl 0 bN) ax) (hn:=gw.n) (hdb:=gw.d)))) (aF (dy (ki PySem.F.plainAttrs_list PySem.F.slot_list_append PySem.F.type_list_append eI (pvl 4 d8) (ah (aX sY (nL qm (pvl 0 bN) qr (qc (pvl 6 eZ))) (nL qm (pvl 0 bN) (qc (aX jt (pvl 6 eZ) aH)) qr)) ax))) (aF (dy (ki PySem.F.plainAttrs_list PySem.F.slot_list_append PySem.F.type_list_append eI (pvl 4 d8) (ah (aX sY (aX sY (nL qm (pvl 0 bN) qr (qc (pvl 6 eZ))) (eE (ah (aZ si (hr.mono (by decide)) lJ.g iZ.m iZ.F.kp iZ.b .nil (cJ hq) (ah (bu b9 (pvl 0 bN) (pvl 6 eZ) (fun _ _=>rfl)) (ah (pvl 2 sZ) (ah (pvl 3 AU) ax))) (hdb:=lJ.d)) ax))) (nL qm (pvl 0 bN) (qc (aX jt (pvl 6 eZ) aH)) qr)) ax))) (aF (dy (ki PySem.F.plainAttrs_list PySem.F.slot_list_append PySem.F.type_list_append eI (pvl 4 d8) (ah (aX sY (nL qm (pvl 0 bN) (qc (pvl 6 eZ)) qr) (nL qm (pvl 0 bN) qr (qc (pvl 6 eZ)))) ax))) (aN (dy (ki PySem.F.plainAttrs_list PySem.F.slot_list_append PySem.F.type_list_append eI (pvl 4 d8) (ah (cSa rfl xH.g T.reversed AK.g T.list (pvl 0 bN)) ax)))))))) cU) (aN (b5 (pvl 4 d8)))))),?_⟩;rw [show L2.start ["steps","tolls","cell","many","told","road","at"] [V.ref ls,V.ref dt,V.int cell,V.int m]=[some (V.ref ls),some (V.ref dt),some (V.int cell),some (V.int m),none,none,none] from rfl];refine ft fun N0 h0=>?_;walk_at "rd";have A0:StsAll H ([]++[ls]):=StsAll.snoc (fun a ha=>by cases ha) hls L (by omega);refine ⟨bn (by simp),fun l1 n1=>?_⟩;have s1:=Same.new (HO.lst []) n1;have A1:=(A0.same s1).snoc (a:=l1) (qs:=[]) (ss:=[]) aq .nil (by show 0<=60;decide);generalize upd H l1 (HO.lst [])=H1 at s1 A1 ⊢;refine ⟨bn (by simp),fun p2 n2=>?_⟩;have s2:=Same.new (HO.tup [V.int 0,V.int 0,V.int 1]) n2;have e2:upd H1 p2 (HO.tup [V.int 0,V.int 0,V.int 1]) p2=some (.tup (vSt ((0,0,1):Stp))):=aq;generalize upd H1 p2 (HO.tup [V.int 0,V.int 0,V.int 1])=H2 at s2 e2 ⊢;refine ⟨bn (by simp),fun l3 n3=>?_⟩;have s3:=s2.trans (Same.new (HO.lst [V.ref p2]) n3);have e3:upd H2 l3 (HO.lst [V.ref p2]) l3=some (.lst ([p2].map V.ref)):=aq;have L3:StepsAt (upd H2 l3 (HO.lst [V.ref p2])) [p2] [((0,0,1):Stp)]:=.cons (Same.new (HO.lst [V.ref p2]) n3 _ _ e2) .nil;generalize upd H2 l3 (HO.lst [V.ref p2])=H3 at s3 e3 L3 ⊢;have t3:=s1.trans s3;refine wq (t3 _ _ hls) e3 (L.same t3) L3 (by show ss.length+1<=1000;omega) fun l4 H4 s4 n4 e4 L4=>?_;have A4:=((A1.same s3).same s4).snoc e4 L4 (by rw [au];show ss.length+1<=60;omega);have t4:=t3.trans s4;refine ⟨bn (by simp),fun lt nlt=>h0 _ _ (ft fun N1 h1=>?_)⟩;have s5:=Same.new (HO.lst [V.ref ls,V.ref l1,V.ref l4]) nlt;have nlt0:H lt=none:=t4.free nlt;have T5:Tld H lt ([]++[ls]++[l1]++[l4]) (upd H4 lt (HO.lst [V.ref ls,V.ref l1,V.ref l4])):=⟨t4.trans s5,aq,A4.same s5,fun b hb z=>by
     obtain ⟨qs',ss',h1,_⟩:=A4 b hb;rw [z,nlt] at h1;cases h1⟩
   generalize upd H4 lt (HO.lst [V.ref ls,V.ref l1,V.ref l4])=H5 at T5 ⊢;generalize hq0:([]++[ls]++[l1]++[l4]:List Addr)=as0 at T5;have as3:as0.length=3:=by rw [<- hq0];rfl
   have nls:ls≠lt:=fun z=>by rw [<- z,hls] at nlt0;cases nlt0
   clear hq0 s1 s2 s3 s4 s5 e2 e3 e4 L3 L4 A0 A1 A4 t3 t4 nlt n1 n2 n3 n4;unfold tSl D2 tNoPart;walk_at "rd";obtain ⟨kvs,kss,hd,hks,hk64,hkk⟩:=Xq g (ta.same T5.sm);refine ⟨kvs,hd,kss,hks,hk64,fun k hk=>(by obtain ⟨a',b',e⟩:=hkk k hk;rw [e];intro z;cases z),fun lw qz zss nw tu pz=>?_⟩;have zk:∀ z∈zss,∃ a b,z=[a,b]:=fun z hz=>hkk z (pz.mem_iff.mp hz);have s6:=Same.new (HO.lst (qz.map V.ref)) nw;have T6:=T5.up s6;have tu6:=TupsAt.same s6 tu;refine ⟨lw,_,rfl,SqL.of aq,fun l2 n2=>?_⟩;rw [Ph _ (by decide),<- pL];have s7:=Same.new (HO.lst ((qz.take (2:Int).toNat).map V.ref)) n2;have T7:=T6.up s7;have tu7:=TupsAt.same s7 tu6;have e7:upd (upd H5 lw (HO.lst (qz.map V.ref))) l2 (HO.lst ((qz.take (2:Int).toNat).map V.ref)) l2=some (.lst ((qz.take (2:Int).toNat).map V.ref)):=aq;have n2t:l2≠lt:=fun z=>by rw [z,T6.el] at n2;cases n2
   generalize upd (upd H5 lw (HO.lst (qz.map V.ref))) l2 (HO.lst ((qz.take (2:Int).toNat).map V.ref))=H7 at T7 tu7 e7 ⊢;clear s6 s7 T5 T6 tu tu6 nw n2 hd;refine ⟨l2,rfl,⟨_,SqL.of e7⟩,?_⟩;refine rg (K:=K) (xs:=(qz.take (2:Int).toNat).map V.ref) (fun i σ G=>(∃ as,Tld H lt as G/\as.length=3+2*i)/\TupsAt G qz zss/\G l2=some (.lst ((qz.take (2:Int).toNat).map V.ref))/\∃ v5 v6,σ=[some (V.ref ls),some (V.ref dt),some (V.int cell),some (V.int m),some (V.ref lt),v5,v6]) ⟨⟨as0,T7,as3⟩,tu7,e7,_,_,rfl⟩ (fun i σ G _ z=>SqL.of z.2.2.1) ?_ ?_
   . rintro i x σ G M BB hBB hM hx ⟨⟨as,T,asl⟩,tuG,eG,v5,v6,rfl⟩;obtain ⟨pr,hpr,rfl⟩:=List.getElem?_map_some hx;have i2:i<2:=by
       have:=(aB.mp hpr).1;rw [bo] at this;have:(2:Int).toNat=2:=rfl;omega
     rw [gd (show i<(2:Int).toNat from i2)] at hpr;obtain ⟨z,hz,ez⟩:=Lc tuG hpr;obtain ⟨ra,rb,rfl⟩:=zk z (bd hz);refine hBB _ _ (ft fun M1 k1=>?_);walk_at "rd";have ez':G pr=some (.tup [V.int ra,V.int rb]):=ez;refine ⟨tyL T.el,ixT ez' rfl (ixT ez' rfl ⟨bn (by simp),fun p1 n1=>?_⟩)⟩;have s1:=Same.new (HO.tup [V.int ra,V.int rb,V.int 1]) n1;have e1:upd G p1 (HO.tup [V.int ra,V.int rb,V.int 1]) p1=some (.tup (vSt ((ra,rb,1):Stp))):=aq;generalize upd G p1 (HO.tup [V.int ra,V.int rb,V.int 1])=G1 at s1 e1 ⊢;refine ⟨bn (by simp),fun p2 n2=>?_⟩;have s2:=s1.trans (Same.new (HO.lst [V.ref p1]) n2);have e2:upd G1 p2 (HO.lst [V.ref p1]) p2=some (.lst ([p1].map V.ref)):=aq;have L2':StepsAt (upd G1 p2 (HO.lst [V.ref p1])) [p1] [((ra,rb,1):Stp)]:=.cons (Same.new (HO.lst [V.ref p1]) n2 _ _ e1) .nil;generalize upd G1 p2 (HO.lst [V.ref p1])=G2 at s2 e2 L2' ⊢;have T2:=T.up s2;refine wq (T2.sm _ _ hls) e2 (L.same T2.sm) L2' (by show ss.length+1<=1000;omega) fun p3 G3 s3 n3 e3 L3=>?_;have T3:=T2.up s3;have s13:=s2.trans s3;refine T3.app nlt0 e3 L3 (by rw [au];show ss.length+1<=60;omega) (fun z=>by rw [z,T2.el] at n3;cases n3) (by omega) fun G4 T4 kp=>k1 _ _ ?_;have ez4:G4 pr=some (.tup [V.int ra,V.int rb]):=kp _ _ (lA (s13 _ _ ez') T3.el (by intro z;cases z)) (s13 _ _ ez');have tu4:TupsAt G4 qz zss:=Paired.imp' (fun q z e=>kp _ _ (lA (s13 _ _ e) T3.el (by intro z;cases z)) (s13 _ _ e)) tuG;have eG4:=kp _ _ n2t (s13 _ _ eG);clear s1 s2 s3 e1 e2 e3 L2' L3 T2 T3 s13 n1 n2 n3 kp k1;walk_at "rd";refine ⟨tyL T4.el,ixT ez4 rfl (ixT ez4 rfl ⟨bn (by simp),fun p5 n5=>?_⟩)⟩;have s5:=Same.new (HO.tup [V.int ra,V.int rb,V.int 1]) n5;have e5:upd G4 p5 (HO.tup [V.int ra,V.int rb,V.int 1]) p5=some (.tup (vSt ((ra,rb,1):Stp))):=aq;generalize upd G4 p5 (HO.tup [V.int ra,V.int rb,V.int 1])=G5 at s5 e5 ⊢;refine ixT (s5 _ _ ez4) rfl (ixT (s5 _ _ ez4) rfl ⟨bn (by simp),fun p6 n6=>?_⟩);have u6:=Same.new (HO.tup [V.int rb,V.int ra,V.int 1]) n6;have s6:=s5.trans u6;have e56:=u6 _ _ e5;have e6:upd G5 p6 (HO.tup [V.int rb,V.int ra,V.int 1]) p6=some (.tup (vSt ((rb,ra,1):Stp))):=aq;generalize upd G5 p6 (HO.tup [V.int rb,V.int ra,V.int 1])=G6 at s6 e56 e6 ⊢;refine ⟨bn (by simp),fun p7 n7=>?_⟩;have u7:=Same.new (HO.lst [V.ref p5,V.ref p6]) n7;have s7:=s6.trans u7;have e7:upd G6 p7 (HO.lst [V.ref p5,V.ref p6]) p7=some (.lst ([p5,p6].map V.ref)):=aq;have L7:StepsAt (upd G6 p7 (HO.lst [V.ref p5,V.ref p6])) [p5,p6] [((ra,rb,1):Stp),((rb,ra,1):Stp)]:=.cons (u7 _ _ e56) (.cons (u7 _ _ e6) .nil);generalize upd G6 p7 (HO.lst [V.ref p5,V.ref p6])=G7 at s7 e7 L7 ⊢;have T7':=T4.up s7;refine wq e7 (T7'.sm _ _ hls) L7 (L.same T7'.sm) (by show 2+ss.length<=1000;omega) fun p8 G8 s8 n8 e8 L8=>?_;have T8:=T7'.up s8;have s48:=s7.trans s8;refine T8.app nlt0 e8 L8 (by rw [au];show 2+ss.length<=60;omega) (fun z=>by rw [z,T7'.el] at n8;cases n8) (by rw [au];show as.length+1<=100;omega) fun G9 T9 kp=>hM _ _ ⟨⟨_,T9,?_⟩,?_,?_,_,_,rfl⟩
     . rw [au,au];show as.length+1+1=_;omega
     . exact Paired.imp' (fun q z e=>kp _ _ (lA (s48 _ _ e) T8.el (by intro z;cases z)) (s48 _ _ e)) tu4
     . exact kp _ _ n2t (s48 _ _ eG4)
   . rintro BB σ G hBB ⟨⟨as,T,asl⟩,tuG,eG,v5,v6,rfl⟩;refine hBB _ _ (h1 _ _ (ft fun N2 h2=>?_));have as7:as.length<=7:=by
       rw [ak,bo] at asl;have:(2:Int).toNat=2:=rfl;omega
     clear asl tuG eG tu7 e7 T7 h0 h1;refine GS fun NA NB kA kB=>?_;walk_at "rd";refine ⟨_,.inl (SqL.of (T.sm _ _ hls)),?_⟩;rw [ak];have fin:∀ as' G' σr,Tld H lt as' G'->as'.length<=11->(∃ v5 v6,σr=[some (V.ref ls),some (V.ref dt),some (V.int cell),some (V.int m),some (V.ref lt),v5,v6])->N2 σr G':=by
       rintro as' G' σr T' hl' ⟨v5,v6,rfl⟩;refine h2 _ _ ?_;walk_at "rd";exact k lt as' G' nlt0 T'.sm T'.el hl' T'.al
     by_cases c0:(qs.length:Int) > 0
     . rw [am c0];refine kA _ _ (ft fun M1 k1=>?_);walk_at "rd";refine ⟨⟨by decide,by decide⟩,_,.inl (SqL.of (T.sm _ _ hls)),?_⟩;rw [ak];have a0:=bx (cell / 9) (show (qs.length:Int)≠0 by omega);have a1:=bC (cell / 9) (show (0:Int)<qs.length by omega);refine ⟨by omega,k1 _ _ (ft fun M2 k2=>?_)⟩;generalize cell / 9 % (qs.length:Int)=at' at a0 a1 ⊢;clear k1;have tkl:(ss.take at'.toNat).length<=48:=(by rw [bo];omega);have dpl:(ss.drop (at'+1).toNat).length<=48:=(by rw [cV];omega);have tdl:(ss.take at'.toNat).length+(ss.drop (at'+1).toNat).length+1<=49:=(by rw [bo,cV];omega);unfold tSl D2 tNoPart;walk_at "rd";refine ⟨tyL T.el,My a0 (T.sm _ _ hls) (L.same T.sm) fun p1 G1 s1 n1 e1 L1=>?_⟩;have T1:=T.up s1;refine Lp (by omega) (T1.sm _ _ hls) (L.same T1.sm) fun p2 G2 s2 n2 e2 L2'=>?_;have T2:=T1.up s2;refine wq (s2 _ _ e1) e2 (L1.same s2) L2' (by omega) fun p3 G3 s3 n3 e3 L3=>?_;have T3:=T2.up s3;refine T3.app nlt0 e3 L3 (by rw [au];omega) (fun z=>by rw [z,T2.el] at n3;cases n3) (by omega) fun G4 T4 _=>k2 _ _ (ft fun M3 k3=>?_);clear k2 s1 s2 s3 e1 e2 e3 L1 L2' L3 T1 T2 T3 n1 n2 n3;unfold tSl D2 tNoPart;walk_at "rd";refine ⟨tyL T4.el,My a0 (T4.sm _ _ hls) (L.same T4.sm) fun p1 G5 s5 n5 e5 L5=>?_⟩;have T5:=T4.up s5;have gq:(qs.map V.ref)[at'.toNat]?=some ((qs.map V.ref)[at'.toNat]'(by rw [ak];omega)):=aD _;obtain ⟨pq,st,e6,_,_,e7⟩:=(L.same T5.sm).get gq;refine ixL (T5.sm _ _ hls) (Ck a0 (gq.trans (congrArg some e6))) ?_;refine ⟨pq,st,cell,m,rfl,e7,m1,fun pq' st' G6 s6 e8=>⟨bn (by simp),fun p7 n7=>?_⟩⟩;have s7:=s6.trans (Same.new (HO.lst [V.ref pq']) n7);have e9:upd G6 p7 (HO.lst [V.ref pq']) p7=some (.lst ([pq'].map V.ref)):=aq;have L9:StepsAt (upd G6 p7 (HO.lst [V.ref pq'])) [pq'] [st']:=.cons (Same.new (HO.lst [V.ref pq']) n7 _ _ e8) .nil;generalize upd G6 p7 (HO.lst [V.ref pq'])=G7 at s7 e9 L9 ⊢;have T7:=T5.up s7;refine wq (s7 _ _ e5) e9 (L5.same s7) L9 (by show _+1<=1000;omega) fun p8 G8 s8 n8 e10 L10=>?_;have T8:=T7.up s8;refine Lp (by omega) (T8.sm _ _ hls) (L.same T8.sm) fun p9 G9 s9 n9 e11 L11=>?_;have T9:=T8.up s9;refine wq (s9 _ _ e10) e11 (L10.same s9) L11 (by rw [au];show _+1+_<=1000;omega) fun pA GA sA nA eA LA=>?_;have TA:=T9.up sA;refine TA.app nlt0 eA LA (by rw [au,au];show _+1+_<=60;omega) (fun z=>by rw [z,T9.el] at nA;cases nA) (by rw [au];show _+1<=100;omega) fun GB TB _=>k3 _ _ (ft fun M4 k4=>?_);clear k3 s5 s6 s7 s8 s9 sA e5 e6 e7 e8 e9 e10 e11 eA L5 L9 L10 L11 LA T4 T5 T7 T8 T9 TA gq n5 n7 n8 n9 nA;unfold tSl D2 tNoPart;walk_at "rd";refine ⟨tyL TB.el,Lp a0 (TB.sm _ _ hls) (L.same TB.sm) fun p1 G1 s1 n1 e1 L1=>?_⟩;have T1:=TB.up s1;refine My a0 (T1.sm _ _ hls) (L.same T1.sm) fun p2 G2 s2 n2 e2 L2'=>?_;have T2:=T1.up s2;refine wq (s2 _ _ e1) e2 (L1.same s2) L2' (by rw [cV];omega) fun p3 G3 s3 n3 e3 L3=>?_;have T3:=T2.up s3;refine T3.app nlt0 e3 L3 (by rw [au,cV,bo];omega) (fun z=>by rw [z,T2.el] at n3;cases n3) (by rw [au,au];show _+1+1<=100;omega) fun G4 T4 _=>k4 _ _ ?_;clear k4 s1 s2 s3 e1 e2 e3 L1 L2' L3 T1 T2 T3 TB n1 n2 n3;unfold bAa;walk_at "rd";refine ⟨tyL T4.el,_,SqL.of (T4.sm _ _ hls),fun p5 n5=>?_⟩;rw [<- mB];have s5:=Same.new (HO.lst (qs.reverse.map V.ref)) n5;have T5:=T4.up s5;have L5:StepsAt (upd G4 p5 (HO.lst (qs.reverse.map V.ref))) qs.reverse ss.reverse:=Uj (L.same T5.sm);refine T5.app nlt0 aq L5 (by rw [bj];omega) (fun z=>by rw [z,T4.el] at n5;cases n5) (by rw [au,au,au];show _+1+1+1<=100;omega) fun G6 T6 _=>fin _ G6 _ T6 (by rw [au,au,au,au];show _+1+1+1+1<=11;omega) ⟨_,_,rfl⟩
     . rw [aj c0];refine kB _ _ ?_;walk_at "rd";exact fin as G _ T (by omega) ⟨_,_,rfl⟩
def HV (T:Txt K mg):Sp:=fun vs H Q _=>∃ (a:Addr) (ns:List Int) (m b:Int),vs=[.ref a,.int m,.int b]/\SqL K H a (ns.map V.int)/\ns.length<=63/\1<=m/\m<=24/\1<=b/\∀ (l:Addr) (xs:List Int) (H':Hp),H l=none->Same H H'->H' l=some (.lst (xs.map V.int))->(xs.length:Int)=m->(∀ x∈xs,0<=x)->Q (.ref l) H'
abbrev eW:Stmt:=top 56
theorem wD:FnScope ["script","many","bound","wish","k","place"] ["script","many","bound"] (ag eW):=FnScope.of (by kernel_rfl)
theorem rE:NmL (ag eW) "script":=.of (by kernel_rfl)
theorem pO:NmL (ag eW) "many":=.of (by kernel_rfl)
theorem Hj:NmL (ag eW) "bound":=.of (by kernel_rfl)
theorem uj:NmL (ag eW) "wish":=.of (by kernel_rfl)
theorem pT:NmL (ag eW) "k":=.of (by kernel_rfl)
theorem xP:NmL (ag eW) "place":=.of (by kernel_rfl)
theorem Hy:NmG (ag eW) "range":=.of (by kernel_rfl)
theorem vz:NmG (ag eW) "len":=.of (by kernel_rfl)
theorem kf:NmG (ag eW) "_law_drawn":=.of (by kernel_rfl)
theorem RK (T:Txt K mg) (hq:cr (CXe P w)) {f:Addr} {fd:FuncData} (D:Df K mg "_law_wish" eW ["script","many","bound"] f fd) {cL:Addr} {dC:FuncData} (bc:Df K mg "_law_drawn" dj ["script","k"] cL dC) (cx:FnOk P w K mg base (CXe P w) 1 cL dC ["script","k"] (lU T)):FnOk P w K mg base (CXe P w) 2 f fd ["script","many","bound"] (HV T):=by
 refine D.F.okC wD (fun vs H Q E h=>?_) (fun cdv A outer s H vs Q E hr h=>?_)
 . obtain ⟨a,ns,m,b,rfl,_⟩:=h
   rfl
 . obtain ⟨a,ns,m,b,rfl,ha,hn,m0,m1,b0,k⟩:=h;refine ⟨_,(aF (bz (i:=3) wD.nd rfl (Or.inl uj.l) (aX Qk (eE (ah aH ax)) (pvl 1 pO))) (aF (gB PassesOwn.never rfl (EZ Hy.g T.range (ah (pvl 1 pO) (ah (fG fV vz.g T.len oV (ah (pvl 0 rE) ax) (hn:=vz.n) (hdb:=vz.d)) ax))) (bE (i:=4) wD.nd rfl (Or.inl pT.l)) (aN (eN (cn oB (aX dU (pvl 4 pT) aH) aH (b7 _)) (aF (bz (i:=5) wD.nd rfl (Or.inl xP.l) (aX dU (aZ cx (hr.mono (by decide)) kf.g bc.m bc.F.kp bc.b .nil (cJ hq) (ah (pvl 0 rE) (ah (pvl 4 pT) ax)) (hdb:=kf.d)) (pvl 1 pO))) (aN (rL (aX dU (aX gO (aZ cx (hr.mono (by decide)) kf.g bc.m bc.F.kp bc.b .nil (cJ hq) (ah (pvl 0 rE) (ah (pvl 4 pT) ax)) (hdb:=kf.d)) (pvl 1 pO)) (bu b9 (eE (ah (pvl 2 Hj) (ah aH (ah aH ax)))) (aX dU (aX gO (pvl 4 pT) aH) aH) (fun _ _=>rfl))) (vf (pvl 3 uj) (pvl 5 xP) kE)))) cU))) (aN (b5 (pvl 3 uj))))),?_⟩;rw [show L2.start ["script","many","bound","wish","k","place"] [V.ref a,V.int m,V.int b]=[some (V.ref a),some (V.int m),some (V.int b),none,none,none] from rfl];walk_at "rd";refine ⟨bn (by simp),fun l0 n0=>?_⟩;refine ⟨l0,m,_,rfl,rfl,aq,by omega,by omega,bn (by simp;omega),fun l n1=>?_⟩;rw [bza];have s0:Same H (upd H l0 (.lst [.int 0])):=Same.new _ n0;have s1:=s0.trans (Same.new (.lst (List.replicate m.toNat (V.int 0))) n1);have nl:=s0.free n1;refine ⟨_,.inl (Same.seq s1 ha),m,_,⟨rfl,rfl⟩,⟨by omega,by omega,by omega,by rw [ak];omega⟩,?_⟩;rw [ak];have e1:upd (upd H l0 (.lst [.int 0])) l (.lst (List.replicate m.toNat (V.int 0))) l=some (.lst ((List.replicate m.toNat (0:Int)).map V.int)):=by rw [aq,List.map_replicate]
   generalize upd (upd H l0 (.lst [.int 0])) l (.lst (List.replicate m.toNat (V.int 0)))=H1 at s1 e1 ⊢;refine yj (fun i σ H2=>Same H H2/\∃ (xs:List Int) (v4 v5:Option V),H2 l=some (.lst (xs.map V.int))/\(xs.length:Int)=m/\(∀ x∈xs,0<=x)/\σ=[some (.ref a),some (.int m),some (.int b),some (.ref l),v4,v5]) ⟨s1,_,_,_,e1,by rw [fJ];omega,fun x hx=>by rw [(List.mem_replicate.mp hx).2];decide,rfl⟩ ?_ ?_
   . rintro i σ H2 N hN hi ⟨s2,xs,v4,v5,e2,xl,x0,rfl⟩;have i0:0<=m+(i:Int):=(by omega);have i1:m+(i:Int)<=1000:=(by omega);generalize m+(i:Int)=j at i0 i1 ⊢;have sa:=Same.seq s2 ha;walk_at "rd";refine ⟨by decide,?_⟩;by_cases z:j % 2=1
     . rw [am z];refine ⟨a,ns,j,rfl,sa,i0,i1,fun c c0=>⟨c,rfl,by omega,?_⟩⟩;have h1:=bx c (show m≠0 by omega);have h2:=bC c (show 0<m by omega);generalize c % m=p at h1 h2 ⊢;refine ⟨a,ns,j,rfl,sa,i0,i1,fun c' c0'=>?_⟩;refine ⟨c',rfl,⟨by omega,by omega⟩,bn (by simp),fun q nq=>⟨⟨by decide,by decide⟩,by decide,?_⟩⟩;have s3:=Same.new (.lst [V.int b,V.int 3,V.int 2]) nq;obtain ⟨w,hw,w0⟩:∃ w:Int,atI [V.int b,V.int 3,V.int 2] (j / 2 % 3)=some (.int w)/\0<w:=by
         rcases (show j / 2 % 3=0\/j / 2 % 3=1\/j / 2 % 3=2 by omega) with z|z|z
         . exact ⟨_,by rw [z];rfl,b0⟩
         . exact ⟨_,by rw [z];rfl,by decide⟩
         . exact ⟨_,by rw [z];rfl,by decide⟩
       refine ixL aq hw ⟨w,rfl,w0,Be (s3 _ _ e2) h1 (by rw [ak];omega) (hN _ _ ⟨(s2.trans s3).put nl _,xs.set p.toNat (c' / m % w),_,_,by rw [aq,dJ],by rw [cX];exact xl,Kc x0 (bx _ (by omega)),rfl⟩)⟩
     . rw [aj z];exact hN _ _ ⟨s2,xs,_,_,e2,xl,x0,rfl⟩
   . rintro σ H2 ⟨s2,xs,v4,v5,e2,xl,x0,rfl⟩;exact ⟨_,rfl,k l xs H2 nl s2 e2 xl x0⟩
def rT (T:Txt K mg):Sp:=fun vs H Q E=>∃ (p t:Addr) (m:Int) (ps:List Addr) (rs:List Road) (n:Int),vs=[.ref p,.int n]/\WebAt T.Web H p m t ps rs/\(0<=n->n<m->Q .non H)/\(¬ (0<=n/\n<m)->E (.ref T.NoPlace) none H)
abbrev eB:Stmt:=top 15
theorem Ma:FnScope ["web","number"] ["web","number"] (ag eB):=FnScope.of (by kernel_rfl)
theorem FL:NmL (ag eB) "web":=.of (by kernel_rfl)
theorem Cw:NmL (ag eB) "number":=.of (by kernel_rfl)
theorem sd:NmG (ag eB) "is_place":=.of (by kernel_rfl)
theorem sV:NmG (ag eB) "NoPlace":=.of (by kernel_rfl)
theorem Mn (T:Txt K mg) (hq:cr (CXe P w)) {f:Addr} {fd:FuncData} (D:Df K mg "check_place" eB ["web","number"] f fd) {gN:Addr} {lK:FuncData} (dW:Df K mg "is_place" ik ["many","number"] gN lK) (jM:FnOk P w K mg base (CXe P w) 1 gN lK ["many","number"] (wF T)):FnOk P w K mg base (CXe P w) 2 f fd ["web","number"] (rT T):=by
 refine D.F.okX Ma (fun vs H Q E h=>?_) (fun cdv A outer s H vs Q E hr h=>?_)
 . obtain ⟨p,t,m,ps,rs,n,rfl,_⟩:=h
   rfl
 . obtain ⟨p,t,m,ps,rs,n,rfl,W,k,e⟩:=h;obtain ⟨dx,ob⟩:=W.ob;refine ⟨_,(aN (eN (sL (wJ (aZ jM (hr.mono (by decide)) sd.g dW.m dW.F.kp dW.b .nil gA (ah (wV  (pvl 0 FL) rfl) (ah (pvl 1 Cw) ax)) (hdb:=sd.d)))) (aN (CJ T.XO rfl GQ sV.g T.Wc (ah wO ax) (hdb:=sV.d))) cU)),?_⟩;rw [show L2.start ["web","number"] [V.ref p,V.int n]=[some (V.ref p),some (V.int n)] from rfl];walk_at "rd";refine ⟨T.Web,dx,_,ob,T.sN,T.n_many,_,uP m t,m,n,rfl,_,rfl,?_⟩;by_cases c:0<=n/\n<m
   . rw [aj (by simp [c.1,c.2])];exact k c.1 c.2
   . rw [am (by simpa [bq] using c)];exact ⟨by decide,e c⟩
def LF (T:Txt K mg):Sp:=fun vs H Q E=>∃ (p t:Addr) (m:Int) (ps:List Addr) (rs:List Road) (a b:Int),vs=[.ref p,.int a,.int b]/\WebAt T.Web H p m t ps rs /\
 (∀ k,0<=a->a<m->0<=b->b<m->cS rs a b=some k->Q (.int k) H)/\(¬ ((0<=a/\a<m)/\(0<=b/\b<m))->E (.ref T.NoPlace) none H)/\(0<=a->a<m->0<=b->b<m->cS rs a b=none->E (.ref T.NoRoad) none H)
abbrev jw:Stmt:=top 13
theorem Ch:FnScope ["web","a","b","one","other","there","back"] ["web","a","b"] (ag jw):=FnScope.of (by kernel_rfl)
theorem Bw:NmL (ag jw) "web":=.of (by kernel_rfl)
theorem FS:NmL (ag jw) "a":=.of (by kernel_rfl)
theorem Fr:NmL (ag jw) "b":=.of (by kernel_rfl)
theorem AL:NmL (ag jw) "one":=.of (by kernel_rfl)
theorem xm:NmL (ag jw) "other":=.of (by kernel_rfl)
theorem D8:NmL (ag jw) "there":=.of (by kernel_rfl)
theorem F3:NmL (ag jw) "back":=.of (by kernel_rfl)
theorem mt:NmG (ag jw) "check_place":=.of (by kernel_rfl)
theorem BU:NmG (ag jw) "NoRoad":=.of (by kernel_rfl)
theorem cja (T:Txt K mg) (hq:cr (CXe P w)) {f:Addr} {fd:FuncData} (D:Df K mg "toll" jw ["web","a","b"] f fd) {eS:Addr} {iA:FuncData} (cD:Df K mg "check_place" eB ["web","number"] eS iA) (gM:FnOk P w K mg base (CXe P w) 2 eS iA ["web","number"] (rT T)):FnOk P w K mg base (CXe P w) 3 f fd ["web","a","b"] (LF T):=by
 refine D.F.okX Ch (fun vs H Q E h=>?_) (fun cdv A outer s H vs Q E hr h=>?_)
 . obtain ⟨p,t,m,ps,rs,a,b,rfl,_⟩:=h
   rfl
 . obtain ⟨p,t,m,ps,rs,a,b,rfl,W,k,e1,e2⟩:=h;obtain ⟨dx,ob⟩:=W.ob;refine ⟨_,(aF (dy (aZ gM (hr.mono (by decide)) mt.g cD.m cD.F.kp cD.b .nil gA (ah (pvl 0 Bw) (ah (pvl 1 FS) ax)) (hdb:=mt.d))) (aF (dy (aZ gM (hr.mono (by decide)) mt.g cD.m cD.F.kp cD.b .nil gA (ah (pvl 0 Bw) (ah (pvl 2 Fr) ax)) (hdb:=mt.d))) (aF (gB PassesOwn.leaving rfl (FR (wV  (pvl 0 Bw) rfl)) (rf (n:=4) rfl (c7 (bE (i:=3) Ch.nd rfl (Or.inl AL.l)) (c7 (bE (i:=4) Ch.nd rfl (Or.inl xm.l)) (c7 (bE (i:=5) Ch.nd rfl (Or.inl D8.l)) (c7 (bE (i:=6) Ch.nd rfl (Or.inl F3.l)) oF))))) (aF (eN (PW.pt (rK (cn oB (pvl 3 AL) (pvl 1 FS) (b7 _)) (rZ (cn oB (pvl 4 xm) (pvl 2 Fr) (b7 _))))) (aN (b5 (pvl 5 D8))) cU) (aN (eN (PW.pt (rK (cn oB (pvl 3 AL) (pvl 2 Fr) (b7 _)) (rZ (cn oB (pvl 4 xm) (pvl 1 FS) (b7 _))))) (aN (b5 (pvl 6 F3))) cU)))) (aN (CJ T.YS rfl GQ BU.g T.Zl (ah wO ax) (hdb:=BU.d)))))),?_⟩;rw [show L2.start ["web","a","b","one","other","there","back"] [V.ref p,V.int a,V.int b]=[some (V.ref p),some (V.int a),some (V.int b),none,none,none,none] from rfl];walk_at "rd";refine ⟨p,t,m,ps,rs,a,rfl,W,fun a0 a1=>?_,fun z=>e1 fun w=>z w.1⟩;refine ⟨p,t,m,ps,rs,b,rfl,W,fun b0 b1=>?_,fun z=>e1 fun w=>z w.2⟩;refine ⟨T.Web,dx,_,ob,T.sN,T.n_roads,_,HX m t,t,rfl,⟨_,SqT.of W.tu⟩,?_⟩;have hlen:ps.length=rs.length:=Paired.length W.ro;refine Rx (K:=K) (xs:=ps.map V.ref) (fun i σ H2=>H2=H/\cS (rs.take i) a b=none/\∃ v1 v2 v3 v4,σ=[some (V.ref p),some (V.int a),some (V.int b),v1,v2,v3,v4]) ⟨rfl,rfl,_,_,_,_,rfl⟩ (fun i σ H2 _ z=>by rw [z.1];exact SqT.of W.tu) ?_ ?_
   . rintro i x σ H2 N hN hx ⟨rfl,hno,v1,v2,v3,v4,rfl⟩;obtain ⟨q,r,rfl,h1,h2,h3⟩:=W.ro.get hx;have et:rs.take (i+1)=rs.take i++[r]:=(by rw [bS,h2];rfl);have split:cS rs a b=(cS (rs.take i) a b).or ((jp a b r).or (cS (rs.drop (i+1)) a b)):=by
       have:rs=rs.take i++r::rs.drop (i+1):=by
         have hil:i<rs.length:=(aB.mp h2).1;have e:rs[i]=r:=(by rw [aD hil] at h2;exact bh h2);rw [<- e,oX,gP]
       conv=>lhs;rw [this]
       unfold cS;rw [jV,lC];cases jp a b r <;> rfl
     rw [hno,Option.none_or] at split;walk_at "rd";refine ⟨_,SqT.of h3,rfl,_,_,rfl,_,_,rfl,_,_,rfl,_,_,rfl,rfl,?_⟩;walk_at "rd";have next:jp a b r=none->N [some (V.ref p),some (V.int a),some (V.int b),some (V.int r.a),some (V.int r.b),some (V.int r.t),some (V.int r.u)] H2:=fun z=>hN _ _ ⟨rfl,by
       rw [et];unfold cS at hno ⊢;rw [jV,hno,lC,z]
       rfl,_,_,_,_,rfl⟩
     have got:∀ v,jp a b r=some v->cS rs a b=some v:=fun v z=>by rw [split,z];rfl
     unfold jp at next got;split
     . rename_i c1
       split
       . rename_i c2
         exact k _ a0 a1 b0 b1 (got _ (by rw [am ⟨c1,c2⟩]))
       . rename_i c2
         split
         . rename_i c3
           split
           . rename_i c4
             exact k _ a0 a1 b0 b1 (got _ (by rw [aj (fun z=>c2 z.2),am ⟨c3,c4⟩]))
           . rename_i c4
             exact next (by rw [aj (fun z=>c2 z.2),aj (fun z=>c4 z.2)])
         . rename_i c3
           exact next (by rw [aj (fun z=>c2 z.2),aj (fun z=>c3 z.1)])
     . rename_i c1
       split
       . rename_i c3
         split
         . rename_i c4
           exact k _ a0 a1 b0 b1 (got _ (by rw [aj (fun z=>c1 z.1),am ⟨c3,c4⟩]))
         . rename_i c4
           exact next (by rw [aj (fun z=>c1 z.1),aj (fun z=>c4 z.2)])
       . rename_i c3
         exact next (by rw [aj (fun z=>c1 z.1),aj (fun z=>c3 z.1)])
   . rintro σ H2 ⟨rfl,hno,v1,v2,v3,v4,rfl⟩;rw [ak,hlen,db] at hno;walk_at "rd";exact ⟨by decide,e2 a0 a1 b0 b1 hno⟩
def Gd (T:Txt K mg):Sp:=fun vs H Q _=>∃ (p t:Addr) (m:Int) (ps:List Addr) (rs:List Road) (x v u k1 k2:Int),vs=[.ref p,.int x,.int v,.int u]/\WebAt T.Web H p m t ps rs/\(0<=v/\v<m)/\(0<=u/\u<m)/\cS rs v u=some k1/\cS rs u v=some k2/\(2<=k1/\k1<=1000000)/\(2<=k2/\k2<=1000000)/\Q (.int (if 0<=x then x / k1 else x*k2)) H
abbrev fZ:Stmt:=top 41
theorem PN:FnScope ["web","over","place","front"] ["web","over","place","front"] (ag fZ):=FnScope.of (by kernel_rfl)
theorem zM:NmL (ag fZ) "web":=.of (by kernel_rfl)
theorem sC:NmL (ag fZ) "over":=.of (by kernel_rfl)
theorem wN:NmL (ag fZ) "place":=.of (by kernel_rfl)
theorem wW:NmL (ag fZ) "front":=.of (by kernel_rfl)
theorem oA:NmG (ag fZ) "toll":=.of (by kernel_rfl)
theorem Rj (T:Txt K mg) (hq:cr (CXe P w)) {f:Addr} {fd:FuncData} (D:Df K mg "handed_on" fZ ["web","over","place","front"] f fd) {sP:Addr} {Cv:FuncData} (ni:Df K mg "toll" jw ["web","a","b"] sP Cv) (y8:FnOk P w K mg base (CXe P w) 3 sP Cv ["web","a","b"] (LF T)):FnOk P w K mg base (CXe P w) 4 f fd ["web","over","place","front"] (Gd T):=by
 refine D.F.okX PN (fun vs H Q E h=>?_) (fun cdv A outer s H vs Q E hr h=>?_)
 . obtain ⟨p,t,m,ps,rs,x,v,u,k1,k2,rfl,_⟩:=h
   rfl
 . obtain ⟨p,t,m,ps,rs,x,v,u,k1,k2,rfl,W,vr,ur,h1,h2,kr1,kr2,k⟩:=h;refine ⟨_,(aF (eN (cn yc (pvl 1 sC) aH (b7 _)) (aN (b5 (aX gO (pvl 1 sC) (aZ y8 (hr.mono (by decide)) oA.g ni.m ni.F.kp ni.b .nil gA (ah (pvl 0 zM) (ah (pvl 2 wN) (ah (pvl 3 wW) ax))) (hdb:=oA.d))))) cU) (aN (b5 (aX qU (pvl 1 sC) (aZ y8 (hr.mono (by decide)) oA.g ni.m ni.F.kp ni.b .nil gA (ah (pvl 0 zM) (ah (pvl 3 wW) (ah (pvl 2 wN) ax))) (hdb:=oA.d)))))),?_⟩;rw [show L2.start ["web","over","place","front"] [V.ref p,V.int x,V.int v,V.int u]=[some (V.ref p),some (V.int x),some (V.int v),some (V.int u)] from rfl];walk_at "rd";by_cases c:0<=x
   . rw [am c] at k ⊢;refine ⟨p,t,m,ps,rs,v,u,rfl,W,fun k' _ _ _ _ h=>?_,fun z=>absurd ⟨vr,ur⟩ z,fun _ _ _ _ z=>by rw [h1] at z;cases z⟩;rw [h1] at h;cases h;exact ⟨_,rfl,⟨by omega,by omega⟩,k⟩
   . rw [aj c] at k ⊢;refine ⟨p,t,m,ps,rs,u,v,rfl,W,fun k' _ _ _ _ h=>?_,fun z=>absurd ⟨ur,vr⟩ z,fun _ _ _ _ z=>by rw [h2] at z;cases z⟩;rw [h2] at h;cases h;exact ⟨_,rfl,.inr ⟨by omega,by omega⟩,k⟩
def xa (T:Txt K mg):Sp:=fun vs H Q E=>∃ (p t:Addr) (m:Int) (ps:List Addr) (rs:List Road) (a:Int),vs=[.ref p,.int a]/\WebAt T.Web H p m t ps rs /\
 (∀ l H',0<=a->a<m->H l=none->Same H H'->H' l=some (.lst ((nO m rs a).map V.int))->Q (.ref l) H')/\(¬ (0<=a/\a<m)->E (.ref T.NoPlace) none H)
abbrev eV:Stmt:=top 14
theorem OC:FnScope ["web","a"] ["web","a"] (ag eV):=FnScope.of (by kernel_rfl)
theorem xN:NmL (ag eV) "web":=.of (by kernel_rfl)
theorem AE:NmL (ag eV) "a":=.of (by kernel_rfl)
theorem qN:NmG (ag eV) "check_place":=.of (by kernel_rfl)
theorem pE:NmG (ag eV) "sorted":=.of (by kernel_rfl)
theorem rq:NmG (ag eV) "other_ends":=.of (by kernel_rfl)
theorem OL (T:Txt K mg) (hq:cr (CXe P w)) {f:Addr} {fd:FuncData} (D:Df K mg "neighbours" eV ["web","a"] f fd) {eS:Addr} {iA:FuncData} (cD:Df K mg "check_place" eB ["web","number"] eS iA) (gM:FnOk P w K mg base (CXe P w) 2 eS iA ["web","number"] (rT T)) {hW:Addr} {pV:FuncData} (gH:Df K mg "other_ends" fE ["roads","place"] hW pV) (o8:FnOk P w K mg base (CXe P w) 1 hW pV ["roads","place"] (xt T)):FnOk P w K mg base (CXe P w) 3 f fd ["web","a"] (xa T):=by
 refine D.F.okX OC (fun vs H Q E h=>?_) (fun cdv A outer s H vs Q E hr h=>?_)
 . obtain ⟨p,t,m,ps,rs,a,rfl,_⟩:=h
   rfl
 . obtain ⟨p,t,m,ps,rs,a,rfl,W,k,e⟩:=h;obtain ⟨dx,ob⟩:=W.ob;refine ⟨_,(aF (dy (aZ gM (hr.mono (by decide)) qN.g cD.m cD.F.kp cD.b .nil gA (ah (pvl 0 xN) (ah (pvl 1 AE) ax)) (hdb:=qN.d))) (aN (b5 (fG SW pE.g T.sorted Fo (ah (aZ o8 (hr.mono (by decide)) rq.g gH.m gH.F.kp gH.b .nil gA (ah (wV  (pvl 0 xN) rfl) (ah (pvl 1 AE) ax)) (hdb:=rq.d)) ax) (hn:=pE.n) (hdb:=pE.d))))),?_⟩;rw [show L2.start ["web","a"] [V.ref p,V.int a]=[some (V.ref p),some (V.int a)] from rfl];walk_at "rd";refine ⟨p,t,m,ps,rs,a,rfl,W,fun a0 a1=>?_,e⟩;have hlen:(rs.length:Int)=m - 1:=W.go.len;have m24:=W.go.m24;refine ⟨T.Web,dx,_,ob,T.sN,T.n_roads,_,HX m t,t,ps,rs,a,rfl,SqT.of W.tu,W.ro,by omega,fun l1 H1 n1 s1 e1=>?_⟩;refine ⟨l1,rfl,gn rs a,SqL.of e1,by have:=Po rs a;omega,fun l2 zs n2 pz sz=>?_⟩;rw [b4a W.go a0 a1 pz sz];exact k l2 _ a0 a1 (s1.free n2) (s1.trans (Same.new _ n2)) aq
def LW (T:Txt K mg):Sp:=fun vs H Q _=>∃ (p t:Addr) (m:Int) (ps:List Addr) (rs:List Road) (a:Int) (fv:V),vs=[.ref p,.int a,fv]/\WebAt T.Web H p m t ps rs/\0<=a/\a<m/\(fv=.non\/∃ i,fv=.int i) /\
 ∀ l H',H l=none->Same H H'->H' l=some (.lst ((dA m rs fv a).map V.int))->Q (.ref l) H'
abbrev mX:Stmt:=top 36
theorem cXa:FnScope ["web","place","front"] ["web","place","front"] (ag mX):=FnScope.of (by kernel_rfl)
theorem S4:NmL (ag mX) "web":=.of (by kernel_rfl)
theorem NX:NmL (ag mX) "place":=.of (by kernel_rfl)
theorem cZa:NmC (ag mX) "front":=.of (by kernel_rfl)
theorem wU:NmG (ag mX) "neighbours":=.of (by kernel_rfl)
theorem bQa (T:Txt K mg) (hq:cr (CXe P w)) {f:Addr} {fd:FuncData} (D:Df K mg "kids" mX ["web","place","front"] f fd) {hJ:Addr} {pZ:FuncData} (gC:Df K mg "neighbours" eV ["web","a"] hJ pZ) (o6:FnOk P w K mg base (CXe P w) 3 hJ pZ ["web","a"] (xa T)):FnOk P w K mg base (CXe P w) 4 f fd ["web","place","front"] (LW T):=by
 refine D.F.okC cXa (fun vs H Q E h=>?_) (fun cdv A outer s H vs Q E hr h=>?_)
 . obtain ⟨p,t,m,ps,rs,a,fv,rfl,_⟩:=h
   rfl
 . obtain ⟨p,t,m,ps,rs,a,fv,rfl,W,a0,a1,hf,k⟩:=h;have m24:=W.go.m24;refine ⟨_,(aN (b5 (wf rfl (wu (Nc:=["near","front"]) 1 [2] (by decide +kernel) rfl (by decide +kernel) rfl (by show ∀ (y:Str × NameKind),y∈_->y.2=NameKind.free->(ag mX).names.lookup y.1=some NameKind.cell;decide +kernel) rfl (fun _ h=>pJ h) (fun i hi=>match i,hi with|0,_=>⟨"front",2,rfl,rfl,rfl,by decide +kernel⟩|i+1,hi=>absurd hi (by show ¬ i+1<1;omega))) (mI (aZ o6 (hr.mono (by decide)) wU.g gC.m gC.F.kp gC.b .nil (cJ hq) (ah (pvl 0 S4) (ah (pvl 1 NX) ax)) (hdb:=wU.d))) (fun _ _ _ _=>(bE (i:=0) (show (["near","front"]:List Str).Nodup from by decide +kernel) rfl (Or.inl rfl))) (fun _ _ _ _=>(TV (cn yw (pv 0) (pv 1) (b7 _)))) (fun _ _ _ _=>(pv 0))))),?_⟩;rw [show L2.start ["web","place","front"] [V.ref p,V.int a,fv]=[some (V.ref p),some (V.int a),some fv] from rfl];walk_at "rd";have nl:(nO m rs a).length<=24:=by
     have:=gU (fun q=>decide (q∈gn rs a)) (below m.toNat);rw [eD] at this;unfold nO;omega
   refine ⟨p,t,m,ps,rs,a,rfl,W,fun l1 H1 _ _ n1 s1 e1=>⟨l1,rfl,⟨_,SqL.of e1⟩,fun l2 n2=>?_⟩,fun z=>absurd ⟨a0,a1⟩ z⟩;have n20:H l2=none:=s1.free n2;refine Jb (c:=true) (K:=K) (a:=l1) (xs:=(nO m rs a).map V.int) (fun j ys σ H2=>Same H1 H2/\H2 l2=some (.lst ys)/\ys=(((nO m rs a).take j).filter fun v=>decide (V.int v≠fv)).map V.int/\∃ v,σ=[v,some fv]) ⟨Same.new _ n2,aq,rfl,_,rfl⟩ (fun j ys σ H2 _ z=>SqL.of (z.1 _ _ e1)) ?_ ?_
   . rintro j xj ys σ H2 N hN hj ⟨s2,h2,rfl,v,rfl⟩;rw [aU] at hj;obtain ⟨b,hb,rfl⟩:=bM.mp hj;have et:(nO m rs a).take (j+1)=(nO m rs a).take j++[b]:=(by rw [bS,hb];rfl);have ll:(((nO m rs a).take j).filter fun v=>decide (V.int v≠fv)).length<=24:=by
       have h1:=gU (fun v=>decide (V.int v≠fv)) ((nO m rs a).take j);rw [bo] at h1;omega
     walk_at "rd";have sc:Ba (V.int b) fv=true:=by
       rcases hf with rfl|⟨i,rfl⟩ <;> rfl
     refine ⟨sc,?_⟩;by_cases c:V.int b=fv
     . rw [aj (fun z=>z c)];refine hN _ _ _ ⟨s2,h2,?_,_,rfl⟩;rw [et,fD];simp [c]
     . rw [am c];refine ⟨h2,gk (by rw [ak];omega),hN _ _ _ ⟨s2.put n2 _,aq,?_,_,rfl⟩⟩;rw [et,fD];simp [c]
   . rintro ys σ H2 ⟨s2,h2,rfl,v,rfl⟩;rw [ak,db] at h2;exact k l2 H2 n20 (s1.trans s2) h2
def IX (T:Txt K mg):Sp:=fun vs H Q E=>∃ (p t:Addr) (m:Int) (ps:List Addr) (rs:List Road) (r:Int),vs=[.ref p,.int r]/\WebAt T.Web H p m t ps rs /\
 (0<=r->r<m->∃ par dep,Rooted m rs r par dep/\∀ l H',H l=none->Same H H'->H' l=some (.lst (BP m r par))->Q (.ref l) H')/\(¬ (0<=r/\r<m)->E (.ref T.NoPlace) none H)
abbrev g9:Stmt:=top 34
theorem wv:FnScope ["web","r","nearer","waiting","place","front","kid"] ["web","r"] (ag g9):=FnScope.of (by kernel_rfl)
theorem zC:NmL (ag g9) "web":=.of (by kernel_rfl)
theorem Kz:NmL (ag g9) "r":=.of (by kernel_rfl)
theorem qP:NmL (ag g9) "nearer":=.of (by kernel_rfl)
theorem pM:NmL (ag g9) "waiting":=.of (by kernel_rfl)
theorem rQ:NmL (ag g9) "place":=.of (by kernel_rfl)
theorem B6:NmL (ag g9) "front":=.of (by kernel_rfl)
theorem yG:NmL (ag g9) "kid":=.of (by kernel_rfl)
theorem vD:NmG (ag g9) "check_place":=.of (by kernel_rfl)
theorem El:NmG (ag g9) "kids":=.of (by kernel_rfl)
theorem Zu (T:Txt K mg) (hq:cr (CXe P w)) {f:Addr} {fd:FuncData} (D:Df K mg "ahead" g9 ["web","r"] f fd) {eS:Addr} {iA:FuncData} (cD:Df K mg "check_place" eB ["web","number"] eS iA) (gM:FnOk P w K mg base (CXe P w) 2 eS iA ["web","number"] (rT T)) {sW:Addr} {Cc:FuncData} (rH:Df K mg "kids" mX ["web","place","front"] sW Cc) (B3:FnOk P w K mg base (CXe P w) 4 sW Cc ["web","place","front"] (LW T)):FnOk P w K mg base (CXe P w) 5 f fd ["web","r"] (IX T):=by
 refine D.F.okX wv (fun vs H Q E h=>?_) (fun cdv A outer s H vs Q E hr h=>?_)
 . obtain ⟨p,t,m,ps,rs,r,rfl,_⟩:=h
   rfl
 . obtain ⟨p,t,m,ps,rs,r,rfl,W,k,e⟩:=h;obtain ⟨dx,ob⟩:=W.ob;have g:=W.go;have m24:=g.m24;refine ⟨_,(aF (dy (aZ gM (hr.mono (by decide)) vD.g cD.m cD.F.kp cD.b .nil gA (ah (pvl 0 zC) (ah (pvl 1 Kz) ax)) (hdb:=vD.d))) (aF (bz (i:=2) wv.nd rfl (Or.inl qP.l) (aX Qk (eE (ah O1 ax)) (wV  (pvl 0 zC) rfl))) (aF (bz (i:=3) wv.nd rfl (Or.inl pM.l) (eE (ah (pvl 1 Kz) ax))) (aF (Dv PassesOwn.leaving (IT (pvl 3 pM) (fun _=>rfl)) (aF (bz (i:=4) wv.nd rfl (Or.inl rQ.l) (P3 PySem.F.plainAttrs_list PySem.F.slot_list_pop PySem.F.type_list_pop Rz (pvl 3 pM))) (aF (bz (i:=5) wv.nd rfl (Or.inl B6.l) (bu b9 (pvl 2 qP) (pvl 4 rQ) (fun _ _=>rfl))) (aN (gB PassesOwn.leaving rfl (mI (aZ B3 (hr.mono (by decide)) El.g rH.m rH.F.kp rH.b .nil gA (ah (pvl 0 zC) (ah (pvl 4 rQ) (ah (pvl 5 B6) ax))) (hdb:=El.d))) (bE (i:=6) wv.nd rfl (Or.inl yG.l)) (aF (rL (pvl 4 rQ) (vf (pvl 2 qP) (pvl 6 yG) kE)) (aN (dy (ki PySem.F.plainAttrs_list PySem.F.slot_list_append PySem.F.type_list_append eI (pvl 3 pM) (ah (pvl 6 yG) ax)))))))))) (aN (b5 (pvl 2 qP))))))),?_⟩;rw [show L2.start ["web","r","nearer","waiting","place","front","kid"] [V.ref p,V.int r]=[some (V.ref p),some (V.int r),none,none,none,none,none] from rfl];walk_at "rd";refine ⟨p,t,m,ps,rs,r,rfl,W,fun r0 r1=>?_,e⟩;obtain ⟨par,dep,R,k⟩:=k r0 r1;refine ⟨by decide,fun l1 n1=>?_⟩;have s1:=Same.new (.lst [V.non]) n1;refine ⟨T.Web,dx,_,s1 _ _ ob,T.sN,T.n_many,_,rfl,?_⟩;refine ⟨l1,m,[V.non],rfl,rfl,aq,by omega,by omega,bn (by simp;omega),fun l2 n2=>?_⟩;have n20:H l2=none:=s1.free n2;rw [Z1,<- dEa (par:=par)];have s2:=s1.trans (Same.new (.lst (nl m par [])) n2);refine ⟨bn (by simp),fun l3 n3=>?_⟩;have n30:H l3=none:=s2.free n3;have n32:l3≠l2:=fun z=>by rw [z,aq] at n3;cases n3
   have s3:=s2.trans (Same.new (.lst [V.int r]) n3);have e2:upd (upd (upd H l1 (.lst [V.non])) l2 (.lst (nl m par []))) l3 (.lst [V.int r]) l2=some (.lst (nl m par [])):=by rw [aR n32.symm,aq]
   have e3:upd (upd (upd H l1 (.lst [V.non])) l2 (.lst (nl m par []))) l3 (.lst [V.int r]) l3=some (.lst [V.int r]):=aq;generalize upd (upd (upd H l1 (.lst [V.non])) l2 (.lst (nl m par []))) l3 (.lst [V.int r])=H3 at s3 e2 e3 ⊢;refine TN (fun n σ H4=>∃ (ks ws:List Int) (v4 v5 v6:Option V),n=2*(m.toNat - ks.length)+ws.length/\σ=[some (.ref p),some (.int r),some (.ref l2),some (.ref l3),v4,v5,v6]/\Same H H4/\H4 l2=some (.lst (nl m par ks))/\H4 l3=some (.lst (ws.map V.int))/\AInv m rs r par ks ws) (2*m.toNat+1) ⟨[],[r],_,_,_,rfl,rfl,s3,e2,e3,AInv.start⟩ ?_;rintro n σ H4 NW BB hBB hN hN2 ⟨ks,ws,v4,v5,v6,rfl,rfl,s4,h2,h3,J⟩;refine hBB _ _ _ ?_;have kl:=gX (by omega) J.nd J.rng;walk_at "rd";refine ⟨_,.inl ⟨_,SqL.of h3,rfl⟩,?_⟩;rcases jU ws with rfl|⟨ws',q,rfl⟩
   . rw [aj (by simp)];rw [J.done R] at h2;exact k l2 H4 n20 s4 h2
   . rw [j6] at J h3 hN hN2 ⊢;rw [am (by simp)];have hq:q∈ws'++[q]:=aV _ (aI.mpr rfl);have pr:=J.at_ r0 r1 hq;have J2:=J.step g R r0 r1 (p:=q) (ws':=ws') (lG q ws');refine ⟨NW,fun σ' H' z=>?_,?_⟩
     . obtain ⟨m',lt,ks',ws'',a4,a5,a6,e1,e2,e3⟩:=hN2 _ _ z;exact ⟨m',lt,ks',ws'',e1,a4,a5,a6,e2,e3⟩
     rw [aK,aW,gc] at h3;refine ⟨tyL h3,aoa h3 ?_⟩;have s5:Same H (upd H4 l3 (.lst (ws'.map V.int))):=s4.put n30 _;have h25:upd H4 l3 (.lst (ws'.map V.int)) l2=some (.lst (nl m par ks)):=(by rw [aR n32.symm];exact h2);have h35:upd H4 l3 (.lst (ws'.map V.int)) l3=some (.lst (ws'.map V.int)):=aq;generalize upd H4 l3 (.lst (ws'.map V.int))=H5 at s5 h25 h35 ⊢;refine ixL h25 (Ck pr.1 (WD pr.1 pr.2)) ?_;rw [J.front hq];have hfv:Pb.front r par q=.non\/∃ i,Pb.front r par q=.int i:=by
       unfold Pb.front;by_cases c:q=r
       . rw [am c];exact .inl rfl
       . rw [aj c];exact .inr ⟨_,rfl⟩
     have mk:∀ v,v∈dA m rs (Pb.front r par q) q->(0<=v/\v<m)/\v≠r/\par v=q:=fun v=>(nB g R pr.1 pr.2).mp;refine ⟨p,t,m,ps,rs,q,_,rfl,W.same s5,pr.1,pr.2,hfv,fun l6 H6 n6 s6 e6=>⟨l6,rfl,⟨_,SqL.of e6⟩,?_⟩⟩;generalize dA m rs (Pb.front r par q) q=kk at mk e6 J2 ⊢;have n6':H l6=none:=s5.free n6;have n62:l6≠l2:=fun z=>by rw [z,h25] at n6;cases n6
     have n63:l6≠l3:=fun z=>by rw [z,h35] at n6;cases n6
     have kl2:=gX (by omega) J2.nd J2.rng;rw [au] at kl2;have wl2:=gX (by omega) J2.wnd fun w hw=>J2.at_ r0 r1 hw;rw [au] at wl2;refine rg (K:=K) (xs:=kk.map V.int) (fun i σ H7=>∃ v6,σ=[some (.ref p),some (.int r),some (.ref l2),some (.ref l3),some (.int q),some (Pb.front r par q),v6]/\Same H H7/\H7 l6=some (.lst (kk.map V.int))/\H7 l2=some (.lst (nl m par (ks++kk.take i)))/\H7 l3=some (.lst ((ws'++kk.take i).map V.int))) ⟨_,rfl,s5.trans s6,e6,by rw [cR,bG];exact s6 _ _ h25,by rw [cR,bG];exact s6 _ _ h35⟩ (fun i σ H7 _ z=>by obtain ⟨_,_,_,z,_⟩:=z;exact SqL.of z) ?_ ?_
     . rintro i x σ H7 NI BB hBB hI hi ⟨v6,rfl,s7,e7,h27,h37⟩;refine hBB _ _ ?_;rw [aU] at hi;obtain ⟨v,hv,rfl⟩:=bM.mp hi;obtain ⟨vr,_,vp⟩:=mk v (bd hv);have et:kk.take (i+1)=kk.take i++[v]:=(by rw [bS,hv];rfl);walk_at "rd";refine ⟨l2,_,v,v.toNat,rfl,rfl,h27,by unfold ixN;rw [am vr.1,am (by rw [Aj];omega)],?_⟩;rw [<- vp,dYa vr.1 vr.2,vp,cq,<- et];have h38:upd H7 l2 (.lst (nl m par (ks++kk.take (i+1)))) l3=some (.lst ((ws'++kk.take i).map V.int)):=(by rw [aR n32];exact h37);have wlen:(ws'++kk.take i).length<=100:=by
         rw [au,bo];omega
       refine ⟨tyL h38,uY h38 (gk (by rw [ak];omega)) (hI _ _ ⟨_,rfl,(s7.put n20 _).put n30 _,?_,?_,?_⟩)⟩
       . rw [aR n63,aR n62];exact e7
       . rw [aR n32.symm,aq]
       . rw [aq,et,<- cq,aK (l₁:=ws'++kk.take i)];rfl
     . rintro BB σ H7 hBB ⟨v6,rfl,s7,e7,h27,h37⟩;refine hBB _ _ ?_;rw [ak,db] at h27 h37;refine hN _ _ _ ?_ ⟨_,_,_,_,_,rfl,rfl,s7,h27,h37,J2⟩;rw [au,au,au];simp only [aQ,f7];omega
def TL (T:Txt K mg):Sp:=fun vs H Q E=>∃ (p t:Addr) (m:Int) (ps:List Addr) (rs:List Road) (r:Int),vs=[.ref p,.int r]/\WebAt T.Web H p m t ps rs /\
 (0<=r->r<m->∃ par dep,Rooted m rs r par dep/\∀ l H',H l=none->Same H H'->H' l=some (.lst ((uk m rs r par dep r).map V.int))->(uk m rs r par dep r).Nodup->(∀ v,v∈uk m rs r par dep r↔0<=v/\v<m)->Q (.ref l) H')/\(¬ (0<=r/\r<m)->E (.ref T.NoPlace) none H)
abbrev jA:Stmt:=top 35
theorem yz:FnScope ["web","r","nearer","places","waiting","place","kid"] ["web","r"] (ag jA):=FnScope.of (by kernel_rfl)
theorem HH:NmL (ag jA) "web":=.of (by kernel_rfl)
theorem ME:NmL (ag jA) "r":=.of (by kernel_rfl)
theorem Ca:NmL (ag jA) "nearer":=.of (by kernel_rfl)
theorem wj:NmL (ag jA) "places":=.of (by kernel_rfl)
theorem qS:NmL (ag jA) "waiting":=.of (by kernel_rfl)
theorem tK:NmL (ag jA) "place":=.of (by kernel_rfl)
theorem HS:NmL (ag jA) "kid":=.of (by kernel_rfl)
theorem Ee:NmG (ag jA) "ahead":=.of (by kernel_rfl)
theorem Jr:NmG (ag jA) "reversed":=.of (by kernel_rfl)
theorem Gy:NmG (ag jA) "kids":=.of (by kernel_rfl)
theorem cEa (T:Txt K mg) (hq:cr (CXe P w)) {f:Addr} {fd:FuncData} (D:Df K mg "down" jA ["web","r"] f fd) {qj:Addr} {yT:FuncData} (oS:Df K mg "ahead" g9 ["web","r"] qj yT) (yx:FnOk P w K mg base (CXe P w) 5 qj yT ["web","r"] (IX T)) {sW:Addr} {Cc:FuncData} (rH:Df K mg "kids" mX ["web","place","front"] sW Cc) (B3:FnOk P w K mg base (CXe P w) 4 sW Cc ["web","place","front"] (LW T)):FnOk P w K mg base (CXe P w) 6 f fd ["web","r"] (TL T):=by
 refine D.F.okX yz (fun vs H Q E h=>?_) (fun cdv A outer s H vs Q E hr h=>?_)
 . obtain ⟨p,t,m,ps,rs,r,rfl,_⟩:=h
   rfl
 . obtain ⟨p,t,m,ps,rs,r,rfl,W,k,e⟩:=h;have g:=W.go;have m24:=g.m24;refine ⟨_,(aF (bz (i:=2) yz.nd rfl (Or.inl Ca.l) (aZ yx (hr.mono (by decide)) Ee.g oS.m oS.F.kp oS.b .nil gA (ah (pvl 0 HH) (ah (pvl 1 ME) ax)) (hdb:=Ee.d))) (aF (bz (i:=3) yz.nd rfl (Or.inl wj.l) (eE ax)) (aF (bz (i:=4) yz.nd rfl (Or.inl qS.l) (eE (ah (pvl 1 ME) ax))) (aF (Dv PassesOwn.leaving (IT (pvl 4 qS) (fun _=>rfl)) (aF (bz (i:=5) yz.nd rfl (Or.inl tK.l) (P3 PySem.F.plainAttrs_list PySem.F.slot_list_pop PySem.F.type_list_pop Rz (pvl 4 qS))) (aF (dy (ki PySem.F.plainAttrs_list PySem.F.slot_list_append PySem.F.type_list_append eI (pvl 3 wj) (ah (pvl 5 tK) ax))) (aN (gB PassesOwn.leaving rfl (J0 Jr.g T.reversed (aZ B3 (hr.mono (by decide)) Gy.g rH.m rH.F.kp rH.b .nil gA (ah (pvl 0 HH) (ah (pvl 5 tK) (ah (bu b9 (pvl 2 Ca) (pvl 5 tK) (fun _ _=>rfl)) ax))) (hdb:=Gy.d))) (bE (i:=6) yz.nd rfl (Or.inl HS.l)) (aN (dy (ki PySem.F.plainAttrs_list PySem.F.slot_list_append PySem.F.type_list_append eI (pvl 4 qS) (ah (pvl 6 HS) ax))))))))) (aN (b5 (pvl 3 wj))))))),?_⟩;rw [show L2.start ["web","r","nearer","places","waiting","place","kid"] [V.ref p,V.int r]=[some (V.ref p),some (V.int r),none,none,none,none,none] from rfl];walk_at "rd";refine ⟨p,t,m,ps,rs,r,rfl,W,fun r0 r1=>?_,e⟩;obtain ⟨par,dep,R,k⟩:=k r0 r1;refine ⟨par,dep,R,fun l1 H1 n1 s1 e1=>⟨by decide,fun l3 n3=>⟨bn (by simp),fun l4 n4=>?_⟩⟩⟩;have n30:H l3=none:=s1.free n3;have s3:=s1.trans (Same.new (.lst []) n3);have n40:H l4=none:=s3.free n4;have n13:l1≠l3:=fun z=>by rw [<- z,e1] at n3;cases n3
   have n34:l3≠l4:=fun z=>by rw [<- z,aq] at n4;cases n4
   have e13:=Same.new (.lst []) n3 _ _ e1;have n14:l1≠l4:=fun z=>by rw [<- z,e13] at n4;cases n4
   have s4:=s3.trans (Same.new (.lst [V.int r]) n4);have e14:=Same.new (.lst [V.int r]) n4 _ _ e13;have e34:upd (upd H1 l3 (.lst [])) l4 (.lst [V.int r]) l3=some (.lst []):=by rw [aR n34,aq]
   have e44:upd (upd H1 l3 (.lst [])) l4 (.lst [V.int r]) l4=some (.lst [V.int r]):=aq;generalize upd (upd H1 l3 (.lst [])) l4 (.lst [V.int r])=H4 at s4 e14 e34 e44 ⊢;refine TN (fun n σ H5=>∃ (ks ws pl:List Int) (v5 v6:Option V),n=2*(m.toNat - ks.length)+ws.length/\σ=[some (.ref p),some (.int r),some (.ref l1),some (.ref l3),some (.ref l4),v5,v6]/\Same H H5/\H5 l1=some (.lst (BP m r par))/\H5 l3=some (.lst (pl.map V.int))/\H5 l4=some (.lst (ws.map V.int))/\AInv m rs r par ks ws/\(pl++ws).Perm (r::ks)/\pl++ws.reverse.flatMap (uk m rs r par dep)=uk m rs r par dep r) (2*m.toNat+1) ⟨[],[r],[],_,_,rfl,rfl,s4,e14,e34,e44,AInv.start,iX _,by simp⟩ ?_;rintro n σ H5 NW BB hBB hN hN2 ⟨ks,ws,pl,v5,v6,rfl,rfl,s5,h1,h3,h4,J,pe,ep⟩;refine hBB _ _ _ ?_;have rk:∀ w∈r::ks,0<=w/\w<m:=fun w hw=>by
     rcases az.mp hw with rfl|z
     . exact ⟨r0,r1⟩
     . exact J.rng w z
   have nk:(r::ks).Nodup:=ba.mpr ⟨J.nr,J.nd⟩;have kl:=gX (m:=m) (by omega) nk rk;have kl1:=gX (m:=m) (by omega) J.nd J.rng;have pl1:=pe.length_eq;rw [au] at pl1;rw [aQ] at kl pl1;walk_at "rd";refine ⟨_,.inl ⟨_,SqL.of h4,rfl⟩,?_⟩;rcases jU ws with rfl|⟨ws',q,rfl⟩
   . rw [aj (by simp)];rw [List.reverse_nil,List.flatMap_nil,bG] at ep;rw [bG] at pe;subst ep;refine k l3 H5 n30 s5 h3 (pe.nodup_iff.mpr nk) fun v=>⟨fun z=>rk v (pe.mem_iff.mp z),fun z=>pe.mem_iff.mpr ?_⟩;by_cases c:v=r
     . rw [c];exact aO
     . exact aL _ (J.all R v z.1 z.2 c)
   . rw [j6] at J h4 hN hN2 pe ep pl1 ⊢;rw [am (by simp)];have hq:q∈ws'++[q]:=aV _ (aI.mpr rfl);have pr:=J.at_ r0 r1 hq;have J2:=J.step g R r0 r1 (p:=q) (ws':=ws') (lG q ws');refine ⟨NW,fun σ' H' z=>?_,?_⟩
     . obtain ⟨m',lt,ks',ws'',pl',a5,a6,z1,z2⟩:=hN2 _ _ z;exact ⟨m',lt,ks',ws'',z1,pl',a5,a6,z2⟩
     rw [aK,aW,gc] at h4;refine ⟨tyL h4,aoa h4 ?_⟩;have s6:Same H (upd H5 l4 (.lst (ws'.map V.int))):=s5.put n40 _;have h36:upd H5 l4 (.lst (ws'.map V.int)) l3=some (.lst (pl.map V.int)):=(by rw [aR n34];exact h3);have h16:upd H5 l4 (.lst (ws'.map V.int)) l1=some (.lst (BP m r par)):=(by rw [aR n14];exact h1);have h46:upd H5 l4 (.lst (ws'.map V.int)) l4=some (.lst (ws'.map V.int)):=aq;generalize upd H5 l4 (.lst (ws'.map V.int))=H6 at s6 h36 h16 h46 ⊢;refine ⟨tyL h36,uY h36 (gk (by rw [ak];omega)) ?_⟩;have s7:Same H (upd H6 l3 (.lst (pl.map V.int++[V.int q]))):=s6.put n30 _;have h37:upd H6 l3 (.lst (pl.map V.int++[V.int q])) l3=some (.lst ((pl++[q]).map V.int)):=(by rw [aq,aK];rfl);have h17:upd H6 l3 (.lst (pl.map V.int++[V.int q])) l1=some (.lst (BP m r par)):=(by rw [aR n13];exact h16);have h47:upd H6 l3 (.lst (pl.map V.int++[V.int q])) l4=some (.lst (ws'.map V.int)):=(by rw [aR n34.symm];exact h46);generalize upd H6 l3 (.lst (pl.map V.int++[V.int q]))=H7 at s7 h37 h17 h47 ⊢;refine ixL h17 (Ck pr.1 (PL pr.1 pr.2)) ?_;have hfv:Pb.front r par q=.non\/∃ i,Pb.front r par q=.int i:=by
       unfold Pb.front;by_cases c:q=r
       . rw [am c];exact .inl rfl
       . rw [aj c];exact .inr ⟨_,rfl⟩
     have pq:=MK g R pr.1 pr.2;refine ⟨p,t,m,ps,rs,q,_,rfl,W.same s7,pr.1,pr.2,hfv,fun l8 H8 n8 s8 e8=>⟨l8,rfl,_,SqL.of e8,?_⟩⟩;generalize dA m rs (Pb.front r par q) q=kk at e8 J2 pq ⊢;have n81:l1≠l8:=fun z=>by rw [<- z,h17] at n8;cases n8
     have n83:l3≠l8:=fun z=>by rw [<- z,h37] at n8;cases n8
     have n84:l4≠l8:=fun z=>by rw [<- z,h47] at n8;cases n8
     have kl2:=gX (m:=m) (by omega) J2.nd J2.rng;rw [au] at kl2;have wl2:=gX (m:=m) (by omega) J2.wnd fun w hw=>J2.at_ r0 r1 hw;rw [au] at wl2;refine Jy (K:=K) (xs:=kk.map V.int) (fun i σ H9=>∃ v6,σ=[some (.ref p),some (.int r),some (.ref l1),some (.ref l3),some (.ref l4),some (.int q),v6]/\Same H H9/\H9 l8=some (.lst (kk.map V.int))/\H9 l1=some (.lst (BP m r par))/\H9 l3=some (.lst ((pl++[q]).map V.int))/\H9 l4=some (.lst ((ws'++kk.reverse.take i).map V.int))) ⟨_,rfl,s7.trans s8,e8,s8 _ _ h17,s8 _ _ h37,by rw [cR,bG];exact s8 _ _ h47⟩ (fun i σ H9 _ z=>by obtain ⟨_,_,_,z,_⟩:=z;exact SqL.of z) ?_ ?_
     . rintro i x σ H9 NI hI hi ⟨v6,rfl,s9,e9,h19,h39,h49⟩;rw [<- mB,aU] at hi;obtain ⟨v,hv,rfl⟩:=bM.mp hi;have et:kk.reverse.take (i+1)=kk.reverse.take i++[v]:=(by rw [bS,hv];rfl);have wlen:(ws'++kk.reverse.take i).length<=100:=by
         rw [au,bo,bj];omega
       walk_at "rd";refine ⟨tyL h49,uY h49 (gk (by rw [ak];omega)) (hI _ _ ⟨_,rfl,s9.put n40 _,?_,?_,?_,?_⟩)⟩
       . rw [aR n84.symm];exact e9
       . rw [aR n14];exact h19
       . rw [aR n34];exact h39
       . rw [aq,et,<- cq,aK (l₁:=ws'++kk.reverse.take i)];rfl
     . rintro σ H9 ⟨v6,rfl,s9,e9,h19,h39,h49⟩;rw [ak,show kk.length=kk.reverse.length by rw [bj],db] at h49;refine hN _ _ _ ?_ ⟨ks++kk,ws'++kk.reverse,pl++[q],_,_,rfl,rfl,s9,h19,h39,h49,J2.perm (jX _ kk.reverse_perm.symm),?_,?_⟩
       . rw [au,au,au,bj];simp only [aQ,f7];omega
       . have p1:(pl++[q]++(ws'++kk.reverse)).Perm (pl++(ws'++[q])++kk):=by
           rw [cq,cq];refine jX _ ?_;rw [<- cq];exact List.Perm.append (List.perm_append_comm) kk.reverse_perm
         exact p1.trans (List.Perm.append_right _ pe)
       . rw [<- ep,pW,pW,List.reverse_reverse,List.reverse_singleton,List.singleton_append,dP,pq,qO];simp
/-- the places of a row with the ones ahead of them,from its end -/
def UD (par:Int->Int) (v:Int):List V:=[.int v,.int (par v)]
abbrev PairsAt (H:Hp) (par:Int->Int):List Addr->List Int->Prop:=Paired fun q v=>H q=some (.tup (UD par v))
theorem PairsAt.same {H H':Hp} {par:Int->Int} {qs:List Addr} {vs:List Int} (e:Same H H') (h:PairsAt H par qs vs):PairsAt H' par qs vs:=Paired.imp' (fun q v x=>e q _ x) h
theorem PairsAt.get {H:Hp} {par:Int->Int}:∀ {ps:List Addr} {rs:List Int} {i:Nat} {x:V},PairsAt H par ps rs->(ps.map V.ref)[i]?=some x->∃ p r,x=.ref p/\ps[i]?=some p/\rs[i]?=some r/\H p=some (.tup (UD par r))
 | _,_,i,x,.nil,e=>by simp at e
 | _,_,0,x,.cons (a:=p) (b:=r) h hs,e=>⟨p,r,by simpa using e.symm,by simp,by simp,h⟩
 | a::l1,_,i+1,x,.cons h hs,e=>by
   have e':(List.map V.ref l1)[i]?=some x:=by simpa using e
   obtain ⟨p,r,h1,h2,h3,h4⟩:=PairsAt.get hs e';exact ⟨p,r,h1,by simpa using h2,by simpa using h3,h4⟩
theorem PairsAt.snoc {H:Hp} {par:Int->Int} {q:Addr} {v:Int} (e:H q=some (.tup (UD par v))):∀ {qs:List Addr} {vs:List Int},PairsAt H par qs vs->PairsAt H par (qs++[q]) (vs++[v])
 | _,_,.nil=>.cons e .nil
 | _,_,.cons x xs=>.cons x (PairsAt.snoc e xs)
def Ng (T:Txt K mg):Sp:=fun vs H Q E=>∃ (p t:Addr) (m:Int) (ps:List Addr) (rs:List Road) (r:Int),vs=[.ref p,.int r]/\WebAt T.Web H p m t ps rs /\
 (0<=r->r<m->∃ par dep,Rooted m rs r par dep/\∀ l qs tl H',uk m rs r par dep r=r::tl->H l=none->Same H H'->H' l=some (.lst (qs.map V.ref))->PairsAt H' par qs tl.reverse->Order m r par tl->Q (.ref l) H')/\(¬ (0<=r/\r<m)->E (.ref T.NoPlace) none H)
abbrev iw:Stmt:=top 37
theorem Nn:FnScope ["web","r","nearer"] ["web","r"] (ag iw):=FnScope.of (by kernel_rfl)
theorem Ec:NmL (ag iw) "web":=.of (by kernel_rfl)
theorem Ib:NmC (ag iw) "r":=.of (by kernel_rfl)
theorem IU:NmC (ag iw) "nearer":=.of (by kernel_rfl)
theorem Ad:NmG (ag iw) "ahead":=.of (by kernel_rfl)
theorem Fy:NmG (ag iw) "reversed":=.of (by kernel_rfl)
theorem Ct:NmG (ag iw) "down":=.of (by kernel_rfl)
theorem WA (T:Txt K mg) (hq:cr (CXe P w)) {f:Addr} {fd:FuncData} (D:Df K mg "inward" iw ["web","r"] f fd) {qj:Addr} {yT:FuncData} (oS:Df K mg "ahead" g9 ["web","r"] qj yT) (yx:FnOk P w K mg base (CXe P w) 5 qj yT ["web","r"] (IX T)) {y6:Addr} {TU:FuncData} (Cg:Df K mg "down" jA ["web","r"] y6 TU) (P8:FnOk P w K mg base (CXe P w) 6 y6 TU ["web","r"] (TL T)):FnOk P w K mg base (CXe P w) 7 f fd ["web","r"] (Ng T):=by
 refine D.F.okX Nn (fun vs H Q E h=>?_) (fun cdv A outer s H vs Q E hr h=>?_)
 . obtain ⟨p,t,m,ps,rs,r,rfl,_⟩:=h
   rfl
 . obtain ⟨p,t,m,ps,rs,r,rfl,W,k,e⟩:=h;have g:=W.go;have m24:=g.m24;refine ⟨_,(aF (bz (i:=2) Nn.nd rfl (Or.inr IU.l) (aZ yx (hr.mono (by decide)) Ad.g oS.m oS.F.kp oS.b .nil gA (ah (pvl 0 Ec) (ah (pvc 1 Ib) ax)) (hdb:=Ad.d))) (aN (b5 (wf rfl (wu (Nc:=["place","nearer","r"]) 1 [2,1] (by decide +kernel) rfl (by decide +kernel) rfl (by show ∀ (y:Str × NameKind),y∈_->y.2=NameKind.free->(ag iw).names.lookup y.1=some NameKind.cell;decide +kernel) rfl (fun _ h=>pJ h) (fun i hi=>match i,hi with|0,_=>⟨"nearer",2,rfl,rfl,rfl,by decide +kernel⟩|1,_=>⟨"r",1,rfl,rfl,rfl,by decide +kernel⟩|i+2,hi=>absurd hi (by show ¬ i+2<2;omega))) (J0 Fy.g T.reversed (aZ P8 (hr.mono (by decide)) Ct.g Cg.m Cg.F.kp Cg.b .nil gA (ah (pvl 0 Ec) (ah (pvc 1 Ib) ax)) (hdb:=Ct.d))) (fun _ _ _ _=>(bE (i:=0) (show (["place","nearer","r"]:List Str).Nodup from by decide +kernel) rfl (Or.inl rfl))) (fun _ _ _ _=>(TV (cn yw (pv 0) (pv 2) (b7 _)))) (fun _ _ _ _=>(dD (ah (pv 0) (ah (bu (Dh K rfl) (pv 1) (pv 0) (fun _ _=>rfl)) ax)))))))),?_⟩;rw [show L2.start ["web","r","nearer"] [V.ref p,V.int r]=[some (V.ref p),some (V.int r),none] from rfl];walk_at "rd";refine ex6 p t m ps rs r ?_;refine an4 rfl W (fun r0 r1=>?_) e;obtain ⟨par,dep,R,k⟩:=k r0 r1;refine ⟨par,dep,R,fun l1 H1 n1 s1 e1=>?_⟩;refine ex6 p t m ps rs r ?_;refine an4 rfl (W.same s1) (fun _ _=>⟨par,dep,R,fun l2 H2 n2 s2 e2 nd al=>?_⟩) (fun z=>absurd ⟨r0,r1⟩ z);obtain ⟨tl,et,O⟩:=Uz g R r0 r1 nd al;have ll:=aQa g R r0 r1;rw [et] at e2 ll;rw [aQ] at ll;refine ⟨l2,rfl,_,SqL.of e2,fun pc npc=>?_⟩;have e12:=s2 _ _ e1;have s12:=s1.trans s2;have npc0:=s12.free npc;refine YD (K:=K) (xs:=(r::tl).map V.int) (fun i zs σ H3=>Same H2 H3/\H3 pc=some (.lst zs)/\(∃ qs:List Addr,zs=qs.map V.ref/\PairsAt H3 par qs (tl.reverse.take i))/\∃ v,σ=[v,some (V.ref l1),some (V.int r)]) ⟨Same.new _ npc,aq,⟨[],rfl,.nil⟩,_,rfl⟩ (fun i zs σ H3 _ z=>SqL.of (z.1 _ _ e2)) ?_ ?_
   . rintro i x zs σ H3 N hN hx ⟨s3,e3,⟨qs,rfl,pa⟩,v,rfl⟩;rw [<- mB,fH,aU] at hx;obtain ⟨y,gy,rfl⟩:=bM.mp hx;have il:=(aB.mp gy).1;rw [au,bj] at il;have ql:qs.length=(tl.reverse.take i).length:=Paired.length pa;rw [bo,bj] at ql;walk_at "rd";by_cases c:i<tl.length
     . rw [eJ (by rw [bj];exact c)] at gy;have ym:y∈tl:=List.mem_reverse.mp (bd gy);have yr:=O.rng y ym;rw [am (O.ne ym)];have gp:atI (BP m r par) y=some (V.int (par y)):=by
         have ef:Pb.front r par y=V.int (par y):=(by unfold Pb.front;rw [aj (O.ne ym)]);rw [<- ef];exact Ck yr.1 (PL yr.1 yr.2)
       refine ixL (s3 _ _ e12) gp ⟨bn (by simp),fun q nq=>?_⟩;have s4:=Same.new (.tup [V.int y,V.int (par y)]) nq;have nqp:q≠pc:=fun z=>by rw [z,e3] at nq;cases nq
       refine ⟨s4 _ _ e3,gk (by rw [ak];omega),hN _ _ _ ⟨(s3.trans s4).put npc _,aq,⟨qs++[q],by rw [aK];rfl,?_⟩,_,rfl⟩⟩;rw [bS,gy];refine PairsAt.snoc (by rw [aR nqp,aq];rfl) ?_;exact Paired.imp' (fun a b h=>by
         rw [aR (lA h e3 (by intro z;cases z)),aR (dc h nq)];exact h) pa
     . have ei:i=tl.reverse.length:=(by rw [bj];simp at il;omega);rw [ei,eC (aA _),mq] at gy;cases gy;rw [aj (fun z=>z rfl)];refine hN _ _ _ ⟨s3,e3,⟨qs,rfl,?_⟩,_,rfl⟩;rw [c6 (by omega)] at pa ⊢;exact pa
   . rintro zs σ H3 ⟨s3,e3,⟨qs,rfl,pa⟩,v,rfl⟩;rw [c6 (by rw [ak,bj,aQ];omega)] at pa;exact k pc qs tl H3 et npc0 (s12.trans s3) e3 pa O
def bL (m:Int) (xs:List Int):Bool:=decide ((xs.length:Int)=m) && xs.all fun x=>decide (0<=x)
theorem Nu {m:Int} {xs:List Int} (h:(xs.length:Int)=m) (h0:∀ x∈xs,0<=x):bL m xs=true:=by
 unfold bL;rw [bH h,ju,fk];exact fun x hx=>bH (h0 x hx)
theorem C5 {m:Int} {xs:List Int} (h:bL m xs=true):(xs.length:Int)=m:=by
 unfold bL at h;rw [bq] at h;exact cz h.1
theorem eGa {m:Int} {xs:List Int} (h:bL m xs=true):∀ x∈xs,0<=x:=by
 unfold bL at h;rw [bq,fk] at h;exact fun x hx=>cz (h.2 x hx)
def zL (T:Txt K mg):Sp:=fun vs H Q _=>∃ (p a t:Addr) (c:Bool) (m:Int) (ps:List Addr) (rs:List Road) (xs:List Int),vs=[.ref p,.ref a]/\WebAt T.Web H p m t ps rs/\SqX K c H a (xs.map V.int)/\xs.length<=1000/\∀ H',Same H H'->Q (.bl (bL m xs)) H'
abbrev f6:Stmt:=top 24
theorem Qs:FnScope ["web","numbers"] ["web","numbers"] (ag f6):=FnScope.of (by kernel_rfl)
theorem IP:NmL (ag f6) "web":=.of (by kernel_rfl)
theorem uX:NmL (ag f6) "numbers":=.of (by kernel_rfl)
theorem uo:NmG (ag f6) "len":=.of (by kernel_rfl)
theorem tV:NmG (ag f6) "all":=.of (by kernel_rfl)
theorem OZ (T:Txt K mg) (hq:cr (CXe P w)) {f:Addr} {fd:FuncData} (D:Df K mg "is_filled" f6 ["web","numbers"] f fd):FnOk P w K mg base (CXe P w) 1 f fd ["web","numbers"] (zL T):=by
 refine D.F.okC Qs (fun vs H Q E h=>?_) (fun cdv A outer s H vs Q E hr h=>?_)
 . obtain ⟨p,a,t,c,m,ps,rs,xs,rfl,_⟩:=h
   rfl
 . obtain ⟨p,a,t,c,m,ps,rs,xs,rfl,W,ha,hz,k⟩:=h;refine ⟨_,(aN (b5 (zz (mP oB (fG fV uo.g T.len oV (ah (pvl 1 uX) ax) (hn:=uo.n) (hdb:=uo.d)) (wV  (pvl 0 IP) rfl) (b7 _)) (BT (fG (JK rfl) tV.g T.all Pp (ah (wf rfl (Jw (Nc:=["number"]) 1 (by decide +kernel) (by decide +kernel) rfl (by decide +kernel) rfl) (QX c (pvl 1 uX)) (fun _ _ _ _=>(bE (i:=0) (show (["number"]:List Str).Nodup from by decide +kernel) rfl (Or.inl rfl))) (fun _ _ _ _=>uK) (fun _ _ _ _=>(mP yc (pv 0) aH (b7 _)))) ax) (hn:=tV.n) (hdb:=tV.d)))))),?_⟩;rw [show L2.start ["web","numbers"] [V.ref p,V.ref a]=[some (V.ref p),some (V.ref a)] from rfl];walk_at "rd";obtain ⟨dx,ob⟩:=W.ob;have ha':SqL K H a (xs.map V.int)\/SqT K H a (xs.map V.int):=by
     cases c
     . exact .inr ha
     . exact .inl ha
   refine ⟨_,ha',T.Web,dx,_,ob,T.sN,T.n_many,_,uP m t,rfl,?_⟩;rw [ak];by_cases hm:(xs.length:Int)=m
   . rw [am (by rw [hm])];refine ⟨⟨_,ha⟩,fun l nl=>?_⟩;refine Jb (K:=K) (c:=c) (xs:=xs.map V.int) (fun i bs σ H2=>Same H H2/\H2 l=some (.lst bs)/\bs=((xs.take i).map fun x=>decide (0<=x)).map V.bl/\∃ v,σ=[v]) ⟨Same.new _ nl,aq,rfl,_,rfl⟩ (fun i bs σ H2 _ z=>Same.sqX z.1 ha) ?_ ?_
     . rintro i x bs σ H2 N hN hx ⟨s2,e2,rfl,v,rfl⟩;rw [aU] at hx;obtain ⟨y,gy,rfl⟩:=bM.mp hx;walk_at "rd";refine ⟨e2,gk (by rw [ak,ak,bo];omega),hN _ _ _ ⟨s2.put nl _,aq,?_,_,rfl⟩⟩;rw [bS,gy,aK,aK]
       rfl
     . rintro bs σ H2 ⟨s2,e2,rfl,v,rfl⟩;refine ⟨l,rfl,_,SqL.of e2,?_⟩;have e:(((xs.take (xs.map V.int).length).map fun x=>decide (0<=x)).all id)=bL m xs:=by
         rw [ak,db,List.all_map];unfold bL;rw [bH hm,ju]
         rfl
       rw [e];exact k _ s2
   . rw [aj (fun z=>hm (by injection z))];have e:bL m xs=false:=by
       unfold bL;rw [bZ hm,ff]
     rw [e] at k;exact k H (Same.refl _)
def zB (T:Txt K mg):Sp:=fun vs H Q E=>∃ (p a t:Addr) (c:Bool) (m:Int) (ps:List Addr) (rs:List Road) (xs:List Int),vs=[.ref p,.ref a]/\WebAt T.Web H p m t ps rs/\SqX K c H a (xs.map V.int)/\xs.length<=1000 /\
 (bL m xs=true->∀ l H',Same H H'->(H' l=some (.tup (xs.map V.int))\/(c=false/\l=a))->SqT K H' l (xs.map V.int)->Q (.ref l) H')/\(bL m xs=false->∀ H',Same H H'->E (.ref T.BadLaying) none H')
abbrev fK:Stmt:=top 23
theorem QS:FnScope ["web","numbers"] ["web","numbers"] (ag fK):=FnScope.of (by kernel_rfl)
theorem IR:NmL (ag fK) "web":=.of (by kernel_rfl)
theorem vq:NmL (ag fK) "numbers":=.of (by kernel_rfl)
theorem sR:NmG (ag fK) "is_filled":=.of (by kernel_rfl)
theorem tE:NmG (ag fK) "BadLaying":=.of (by kernel_rfl)
theorem qZ:NmG (ag fK) "tuple":=.of (by kernel_rfl)
theorem Pn (T:Txt K mg) (hq:cr (CXe P w)) {f:Addr} {fd:FuncData} (D:Df K mg "laying_of" fK ["web","numbers"] f fd) {iK:Addr} {rD:FuncData} (hG:Df K mg "is_filled" f6 ["web","numbers"] iK rD) (qe:FnOk P w K mg base (CXe P w) 1 iK rD ["web","numbers"] (zL T)):FnOk P w K mg base (CXe P w) 2 f fd ["web","numbers"] (zB T):=by
 refine D.F.okX QS (fun vs H Q E h=>?_) (fun cdv A outer s H vs Q E hr h=>?_)
 . obtain ⟨p,a,t,c,m,ps,rs,xs,rfl,_⟩:=h
   rfl
 . obtain ⟨p,a,t,c,m,ps,rs,xs,rfl,W,ha,hz,k,e⟩:=h;refine ⟨_,(aF (eN (sL (wJ (aZ qe (hr.mono (by decide)) sR.g hG.m hG.F.kp hG.b .nil gA (ah (pvl 0 IR) (ah (pvl 1 vq) ax)) (hdb:=sR.d)))) (aN (CJ T.Sg rfl GQ tE.g T.SB (ah wO ax) (hdb:=tE.d))) cU) (aN (b5 (dN dM qZ.g T.tuple iq (ah (pvl 1 vq) ax) (hn:=qZ.n) (hdb:=qZ.d))))),?_⟩;rw [show L2.start ["web","numbers"] [V.ref p,V.ref a]=[some (V.ref p),some (V.ref a)] from rfl];walk_at "rd";refine ⟨p,a,t,c,m,ps,rs,xs,rfl,W,ha,hz,fun H1 s1=>⟨_,rfl,?_⟩⟩;by_cases z:bL m xs=false
   . rw [am z];exact ⟨by decide,e z H1 s1⟩
   . rw [aj z];have z':bL m xs=true:=(by simpa using z);cases c
     . exact ⟨_,.inr ⟨Same.sqX (c:=false) s1 ha,k z' a H1 s1 (.inr ⟨rfl,rfl⟩) (Same.sqX (c:=false) s1 ha)⟩⟩
     . exact ⟨_,.inl ⟨Same.sqX (c:=true) s1 ha,fun l nl=>k z' l _ (s1.trans (Same.new _ nl)) (.inl aq) (SqT.of aq)⟩⟩
def K4 (T:Txt K mg):Sp:=fun vs H Q E=>∃ (p a t:Addr) (c:Bool) (m:Int) (ps:List Addr) (rs:List Road) (xs:List Int),vs=[.ref p,.ref a]/\WebAt T.Web H p m t ps rs/\SqX K c H a (xs.map V.int)/\xs.length<=1000 /\
 (bL m xs=true->∀ l H',Same H H'->SqT K H' l (xs.map V.int)->Q (.ref l) H')/\(bL m xs=false->∀ H',Same H H'->E (.ref T.BadWish) none H')
abbrev iC:Stmt:=top 39
theorem Uq:FnScope ["web","numbers"] ["web","numbers"] (ag iC):=FnScope.of (by kernel_rfl)
theorem LK:NmL (ag iC) "web":=.of (by kernel_rfl)
theorem wQ:NmL (ag iC) "numbers":=.of (by kernel_rfl)
theorem vg:NmG (ag iC) "is_filled":=.of (by kernel_rfl)
theorem wZ:NmG (ag iC) "BadWish":=.of (by kernel_rfl)
theorem tP:NmG (ag iC) "tuple":=.of (by kernel_rfl)
theorem US (T:Txt K mg) (hq:cr (CXe P w)) {f:Addr} {fd:FuncData} (D:Df K mg "wish_of" iC ["web","numbers"] f fd) {iK:Addr} {rD:FuncData} (hG:Df K mg "is_filled" f6 ["web","numbers"] iK rD) (qe:FnOk P w K mg base (CXe P w) 1 iK rD ["web","numbers"] (zL T)):FnOk P w K mg base (CXe P w) 2 f fd ["web","numbers"] (K4 T):=by
 refine D.F.okX Uq (fun vs H Q E h=>?_) (fun cdv A outer s H vs Q E hr h=>?_)
 . obtain ⟨p,a,t,c,m,ps,rs,xs,rfl,_⟩:=h
   rfl
 . obtain ⟨p,a,t,c,m,ps,rs,xs,rfl,W,ha,hz,k,e⟩:=h;refine ⟨_,(aF (eN (sL (wJ (aZ qe (hr.mono (by decide)) vg.g hG.m hG.F.kp hG.b .nil gA (ah (pvl 0 LK) (ah (pvl 1 wQ) ax)) (hdb:=vg.d)))) (aN (CJ T.WI rfl GQ wZ.g T.XQ (ah wO ax) (hdb:=wZ.d))) cU) (aN (b5 (dN dM tP.g T.tuple iq (ah (pvl 1 wQ) ax) (hn:=tP.n) (hdb:=tP.d))))),?_⟩;rw [show L2.start ["web","numbers"] [V.ref p,V.ref a]=[some (V.ref p),some (V.ref a)] from rfl];walk_at "rd";refine ⟨p,a,t,c,m,ps,rs,xs,rfl,W,ha,hz,fun H1 s1=>⟨_,rfl,?_⟩⟩;by_cases z:bL m xs=false
   . rw [am z];exact ⟨by decide,e z H1 s1⟩
   . rw [aj z];have z':bL m xs=true:=(by simpa using z);cases c
     . exact ⟨_,.inr ⟨Same.sqX (c:=false) s1 ha,k z' a H1 s1 (Same.sqX (c:=false) s1 ha)⟩⟩
     . exact ⟨_,.inl ⟨Same.sqX (c:=true) s1 ha,fun l nl=>k z' l _ (s1.trans (Same.new _ nl)) (SqT.of aq)⟩⟩
def Fk (T:Txt K mg):Sp:=fun vs H Q E=>∃ (p a b t:Addr) (c d:Bool) (m:Int) (ps:List Addr) (rs:List Road) (xs ys:List Int) (r:Int),vs=[.ref p,.ref a,.ref b,.int r]/\WebAt T.Web H p m t ps rs/\SqX K c H a (xs.map V.int)/\xs.length<=1000/\SqX K d H b (ys.map V.int)/\ys.length<=1000 /\
 (bL m xs=true->bL m ys=true->0<=r->r<m->∃ par dep,Rooted m rs r par dep/\∀ l H',H l=none->Same H H'->H' l=some (.lst ((sF m rs r par dep (fun v=>(jg m xs ys).getD v.toNat 0) (hnd rs par)).map V.int))->Q (.ref l) H') /\
 (bL m xs=false->∀ H',Same H H'->E (.ref T.BadLaying) none H')/\(bL m xs=true->bL m ys=false->∀ H',Same H H'->E (.ref T.BadWish) none H')/\(bL m xs=true->bL m ys=true->¬ (0<=r/\r<m)->∀ H',Same H H'->E (.ref T.NoPlace) none H')
abbrev cA:Stmt:=top 40
theorem oC:FnScope ["web","laying","wish","r","has","wanted","over","place","front"] ["web","laying","wish","r"] (ag cA):=FnScope.of (by kernel_rfl)
theorem lS:NmL (ag cA) "web":=.of (by kernel_rfl)
theorem EF:NmL (ag cA) "laying":=.of (by kernel_rfl)
theorem GW:NmL (ag cA) "wish":=.of (by kernel_rfl)
theorem LM:NmL (ag cA) "r":=.of (by kernel_rfl)
theorem IK:NmC (ag cA) "has":=.of (by kernel_rfl)
theorem Ez:NmC (ag cA) "wanted":=.of (by kernel_rfl)
theorem on:NmL (ag cA) "over":=.of (by kernel_rfl)
theorem q8:NmL (ag cA) "place":=.of (by kernel_rfl)
theorem rz:NmL (ag cA) "front":=.of (by kernel_rfl)
theorem sU:NmG (ag cA) "laying_of":=.of (by kernel_rfl)
theorem vy:NmG (ag cA) "wish_of":=.of (by kernel_rfl)
theorem E3:NmG (ag cA) "range":=.of (by kernel_rfl)
theorem vL:NmG (ag cA) "inward":=.of (by kernel_rfl)
theorem sQ:NmG (ag cA) "handed_on":=.of (by kernel_rfl)
theorem Py (T:Txt K mg) (hq:cr (CXe P w)) {f:Addr} {fd:FuncData} (D:Df K mg "standings" cA ["web","laying","wish","r"] f fd) {nW:Addr} {Fu:FuncData} (qv:Df K mg "handed_on" fZ ["web","over","place","front"] nW Fu) (AY:FnOk P w K mg base (CXe P w) 4 nW Fu ["web","over","place","front"] (Gd T)) {tM:Addr} {MW:FuncData} (wk:Df K mg "inward" iw ["web","r"] tM MW) (JA:FnOk P w K mg base (CXe P w) 7 tM MW ["web","r"] (Ng T)) {iI:Addr} {rp:FuncData} (ie:Df K mg "laying_of" fK ["web","numbers"] iI rp) (qi:FnOk P w K mg base (CXe P w) 2 iI rp ["web","numbers"] (zB T)) {rj:Addr} {K5:FuncData} (uH:Df K mg "wish_of" iC ["web","numbers"] rj K5) (Gr:FnOk P w K mg base (CXe P w) 2 rj K5 ["web","numbers"] (K4 T)):FnOk P w K mg base (CXe P w) 8 f fd ["web","laying","wish","r"] (Fk T):=by
 refine D.F.okX oC (fun vs H Q E h=>?_) (fun cdv A outer s H vs Q E hr h=>?_)
 . obtain ⟨p,a,b,t,c,d,m,ps,rs,xs,ys,r,rfl,_⟩:=h
   rfl
 . obtain ⟨p,a,b,t,c,d,m,ps,rs,xs,ys,r,rfl,W,ha,hz,hb,hy,k,e1,e2,e3⟩:=h;have g:=W.go;have m1:=g.m1;have m24:=g.m24;refine ⟨_,(aF (bz (i:=4) oC.nd rfl (Or.inr IK.l) (aZ qi (hr.mono (by decide)) sU.g ie.m ie.F.kp ie.b .nil gA (ah (pvl 0 lS) (ah (pvl 1 EF) ax)) (hdb:=sU.d))) (aF (bz (i:=5) oC.nd rfl (Or.inr Ez.l) (aZ Gr (hr.mono (by decide)) vy.g uH.m uH.F.kp uH.b .nil gA (ah (pvl 0 lS) (ah (pvl 2 GW) ax)) (hdb:=vy.d))) (aF (Db (i:=6) oC.nd rfl on.l rfl (wu (Nc:=["place","has","wanted"]) 1 [4,5] (by decide +kernel) rfl (by decide +kernel) rfl (by show ∀ (y:Str × NameKind),y∈_->y.2=NameKind.free->(ag cA).names.lookup y.1=some NameKind.cell;decide +kernel) rfl (fun _ h=>pJ h) (fun i hi=>match i,hi with|0,_=>⟨"has",4,rfl,rfl,rfl,by decide +kernel⟩|1,_=>⟨"wanted",5,rfl,rfl,rfl,by decide +kernel⟩|i+2,hi=>absurd hi (by show ¬ i+2<2;omega))) (uM E3.g T.range (ah (wV  (pvl 0 lS) rfl) ax)) (fun _ _ _ _=>(bE (i:=0) (show (["place","has","wanted"]:List Str).Nodup from by decide +kernel) rfl (Or.inl rfl))) (fun _ _ _ _=>uK) (fun _ _ _ _=>(aX pb (bu (Ty K rfl) (pv 1) (pv 0) (fun _ _=>rfl)) (bu (Ty K rfl) (pv 2) (pv 0) (fun _ _=>rfl))))) (aF (gB PassesOwn.leaving rfl (mI (aZ JA (hr.mono (by decide)) vL.g wk.m wk.F.kp wk.b .nil gA (ah (pvl 0 lS) (ah (pvl 3 LM) ax)) (hdb:=vL.d))) (rf (n:=2) rfl (c7 (bE (i:=7) oC.nd rfl (Or.inl q8.l)) (c7 (bE (i:=8) oC.nd rfl (Or.inl rz.l)) oF))) (aN (Lu (pvl 6 on) (pvl 8 rz) Jd (aZ AY (hr.mono (by decide)) sQ.g qv.m qv.F.kp qv.b .nil gA (ah (pvl 0 lS) (ah (bu b9 (pvl 6 on) (pvl 7 q8) (fun _ _=>rfl)) (ah (pvl 7 q8) (ah (pvl 8 rz) ax)))) (hdb:=sQ.d)) XC kE))) (aN (b5 (pvl 6 on))))))),?_⟩;rw [show L2.start ["web","laying","wish","r","has","wanted","over","place","front"] [V.ref p,V.ref a,V.ref b,V.int r]=[some (V.ref p),some (V.ref a),some (V.ref b),some (V.int r),none,none,none,none,none] from rfl];walk_at "rd";refine ⟨p,a,t,c,m,ps,rs,xs,rfl,W,ha,hz,fun fi la H1 s1 _ ea=>?_,e1⟩;refine ⟨p,b,t,d,m,ps,rs,ys,rfl,W.same s1,Same.sqX s1 hb,hy,fun fj lb H2 s2 eb=>?_,fun fj H2 s2=>e2 fi fj H2 (s1.trans s2)⟩;have lens:∀ {zs:List Int},bL m zs=true->(zs.length:Int)=m:=fun {zs} f=>by
     unfold bL at f;rw [bq] at f;exact cz f.1
   have xl:=lens fi;have yl:=lens fj;have s12:=s1.trans s2;have W2:=W.same s12;obtain ⟨dx,ob⟩:=W2.ob;refine ⟨T.Web,dx,_,ob,T.sN,T.n_many,_,uP m t,m,rfl,by omega,by omega,fun lo no=>?_⟩;have ea2:=Same.tup s2 ea;refine vh (fun i zs σ H3=>Same H2 H3/\H3 lo=some (.lst zs)/\zs=((List.range i).map fun i=>xs.getD i 0 - ys.getD i 0).map V.int/\∃ v,σ=[v,some (V.ref la),some (V.ref lb)]) ⟨Same.new _ no,aq,rfl,_,rfl⟩ ?_ ?_
   . rintro i zs σ H3 N hN hi ⟨s3,e3',rfl,v,rfl⟩;rw [iE];have i0:(0:Int)<=(i:Int):=(by omega);have ga:=atG (xs:=xs) i0 (by omega);have gb:=atG (xs:=ys) i0 (by omega);rw [bF] at ga gb;walk_at "rd";refine a9a (Same.tup s3 ea2) ga (a9a (Same.tup s3 eb) gb ⟨_,rfl,_,rfl,e3',gk (by simp;omega),hN _ _ _ ⟨s3.put no _,aq,?_,_,rfl⟩⟩);rw [jQ,aK,aK]
     rfl
   . rintro zs σ H3 ⟨s3,e3',rfl,v,rfl⟩;have no0:=s12.free no;have s13:=s12.trans s3;have ol:=MG (m:=m) (by omega) xs ys;change H3 lo=some (.lst ((jg m xs ys).map V.int)) at e3';refine ⟨p,t,m,ps,rs,r,rfl,W.same s13,fun r0 r1=>?_,fun z=>e3 fi fj z H3 s13⟩;obtain ⟨par,dep,R,k⟩:=k fi fj r0 r1;refine ⟨par,dep,R,fun l2 qs tl H4 _ n2 s4 e4 pa O=>?_⟩;have nll:l2≠lo:=fun z=>by rw [z,e3'] at n2;cases n2
     refine ⟨l2,rfl,⟨_,SqL.of e4⟩,?_⟩;have ql:qs.length=tl.reverse.length:=Paired.length pa;refine AH (K:=K) (xs:=qs.map V.ref) (fun i σ H5=>Same H H5/\H5 l2=some (.lst (qs.map V.ref))/\PairsAt H5 par qs tl.reverse/\∃ (cs:List Int) (v4 v5:Option V),H5 lo=some (.lst (cs.map V.int))/\Sofar m rs r par dep (fun v=>(jg m xs ys).getD v.toNat 0) (hnd rs par) (tl.drop (tl.length - i)) cs/\σ=[some (V.ref p),some (V.ref a),some (V.ref b),some (V.int r),some (V.ref la),some (V.ref lb),some (V.ref lo),v4,v5]) ⟨s13.trans s4,e4,pa,jg m xs ys,_,_,s4 _ _ e3',by rw [qG,nU];exact Sofar.nil ol,rfl⟩ (fun i σ H5 _ z=>SqL.of z.2.1) ?_ ?_
     . rintro i x σ H5 N hN hx ⟨s5,e5,pa5,cs,v4,v5,c5,so,rfl⟩;obtain ⟨q,v,rfl,hq,hv,eq⟩:=pa5.get hx;obtain ⟨⟨vr,vn⟩,ev,so'⟩:=O.turn g R so hv;have u:=R.up v vr.1 vr.2 vn;obtain ⟨kk,hk,k0,k1⟩:=LY g R vr.1 vr.2 vn;obtain ⟨kd,hd,d0,d1⟩:=TD g R vr.1 vr.2 vn;have cl:=so.len;walk_at "rd";refine ⟨_,SqT.of eq,rfl,_,_,rfl,_,_,rfl,rfl,?_⟩;refine ixL c5 (atG u.1.1 (by omega)) (ixL c5 (atG vr.1 (by omega)) ?_);refine ⟨p,t,m,ps,rs,_,v,par v,kk,kd,rfl,W.same s5,vr,u.1,hk,hd,⟨k0,k1⟩,⟨d0,d1⟩,?_⟩;refine ⟨_,rfl,_,rfl,Be c5 u.1.1 (by rw [ak];omega) (hN _ _ ⟨s5.put no0 _,?_,?_,DR par (hnd rs par) cs v,_,_,?_,so',rfl⟩)⟩
       . rw [aR nll];exact e5
       . exact Paired.imp' (fun a b h=>by rw [aR (lA h c5 (by intro z;cases z))];exact h) pa5
       . rw [aq,<- dJ];unfold DR hnd;rw [hk,hd]
         rfl
     . rintro σ H5 ⟨s5,e5,pa5,cs,v4,v5,c5,so,rfl⟩;rw [ak,ql,bj,mq,k9] at so;rw [O.done g R so] at c5;walk_at "rd";exact k lo H5 no0 s5 c5
def Bu (T:Txt K mg):Sp:=fun vs H Q E=>∃ (p a b t:Addr) (c d:Bool) (m:Int) (ps:List Addr) (rs:List Road) (xs ys:List Int) (r:Int),vs=[.ref p,.ref a,.ref b,.int r]/\WebAt T.Web H p m t ps rs/\SqX K c H a (xs.map V.int)/\xs.length<=1000/\SqX K d H b (ys.map V.int)/\ys.length<=1000 /\
 (bL m xs=true->bL m ys=true->0<=r->r<m->∃ par dep,Rooted m rs r par dep/\∀ H',Same H H'->Q (.int (gat m rs r par dep (fun v=>(jg m xs ys).getD v.toNat 0) (hnd rs par) r)) H') /\
 (bL m xs=false->∀ H',Same H H'->E (.ref T.BadLaying) none H')/\(bL m xs=true->bL m ys=false->∀ H',Same H H'->E (.ref T.BadWish) none H')/\(bL m xs=true->bL m ys=true->¬ (0<=r/\r<m)->∀ H',Same H H'->E (.ref T.NoPlace) none H')
abbrev gg:Stmt:=top 42
theorem RX:FnScope ["web","laying","wish","r"] ["web","laying","wish","r"] (ag gg):=FnScope.of (by kernel_rfl)
theorem K0:NmL (ag gg) "web":=.of (by kernel_rfl)
theorem Gu:NmL (ag gg) "laying":=.of (by kernel_rfl)
theorem Jo:NmL (ag gg) "wish":=.of (by kernel_rfl)
theorem D7:NmL (ag gg) "r":=.of (by kernel_rfl)
theorem uG:NmG (ag gg) "standings":=.of (by kernel_rfl)
theorem RU (T:Txt K mg) (hq:cr (CXe P w)) {f:Addr} {fd:FuncData} (D:Df K mg "standing" gg ["web","laying","wish","r"] f fd) {nI:Addr} {Fp:FuncData} (qg:Df K mg "standings" cA ["web","laying","wish","r"] nI Fp) (BE:FnOk P w K mg base (CXe P w) 8 nI Fp ["web","laying","wish","r"] (Fk T)):FnOk P w K mg base (CXe P w) 9 f fd ["web","laying","wish","r"] (Bu T):=by
 refine D.F.okX RX (fun vs H Q E h=>?_) (fun cdv A outer s H vs Q E hr h=>?_)
 . obtain ⟨p,a,b,t,c,d,m,ps,rs,xs,ys,r,rfl,_⟩:=h
   rfl
 . obtain ⟨p,a,b,t,c,d,m,ps,rs,xs,ys,r,rfl,W,ha,hz,hb,hy,k,e1,e2,e3⟩:=h;refine ⟨_,(aN (b5 (bu b9 (aZ BE (hr.mono (by decide)) uG.g qg.m qg.F.kp qg.b .nil gA (ah (pvl 0 K0) (ah (pvl 1 Gu) (ah (pvl 2 Jo) (ah (pvl 3 D7) ax)))) (hdb:=uG.d)) (pvl 3 D7) (fun _ _=>rfl)))),?_⟩;rw [show L2.start ["web","laying","wish","r"] [V.ref p,V.ref a,V.ref b,V.int r]=[some (V.ref p),some (V.ref a),some (V.ref b),some (V.int r)] from rfl];walk_at "rd";refine ⟨p,a,b,t,c,d,m,ps,rs,xs,ys,r,rfl,W,ha,hz,hb,hy,fun fi fj r0 r1=>?_,e1,e2,e3⟩;obtain ⟨par,dep,R,k⟩:=k fi fj r0 r1;refine ⟨par,dep,R,fun l H1 n1 s1 e1=>?_⟩;refine ixL e1 (atG r0 ?_) ?_
   . unfold sF;rw [ak,eD];omega
   . rw [QY r0 r1];exact k H1 s1
def MD (T:Txt K mg):Sp:=fun vs H Q E=>∃ (p a b t:Addr) (c d:Bool) (m:Int) (ps:List Addr) (rs:List Road) (xs ys:List Int),vs=[.ref p,.ref a,.ref b]/\WebAt T.Web H p m t ps rs/\SqX K c H a (xs.map V.int)/\xs.length<=1000/\SqX K d H b (ys.map V.int)/\ys.length<=1000 /\
 (bL m xs=true->bL m ys=true->∃ par dep,Rooted m rs 0 par dep/\∀ H',Same H H'->Q (.bl (decide (0<=gat m rs 0 par dep (fun v=>(jg m xs ys).getD v.toNat 0) (hnd rs par) 0))) H') /\
 (bL m xs=false->∀ H',Same H H'->E (.ref T.BadLaying) none H')/\(bL m xs=true->bL m ys=false->∀ H',Same H H'->E (.ref T.BadWish) none H')
abbrev kF:Stmt:=top 43
theorem Xf:FnScope ["web","laying","wish"] ["web","laying","wish"] (ag kF):=FnScope.of (by kernel_rfl)
theorem OI:NmL (ag kF) "web":=.of (by kernel_rfl)
theorem IQ:NmL (ag kF) "laying":=.of (by kernel_rfl)
theorem Ly:NmL (ag kF) "wish":=.of (by kernel_rfl)
theorem wS:NmG (ag kF) "standing":=.of (by kernel_rfl)
theorem WL (T:Txt K mg) (hq:cr (CXe P w)) {f:Addr} {fd:FuncData} (D:Df K mg "is_met" kF ["web","laying","wish"] f fd) {jP:Addr} {tp:FuncData} (iR:Df K mg "standing" gg ["web","laying","wish","r"] jP tp) (rV:FnOk P w K mg base (CXe P w) 9 jP tp ["web","laying","wish","r"] (Bu T)):FnOk P w K mg base (CXe P w) 10 f fd ["web","laying","wish"] (MD T):=by
 refine D.F.okX Xf (fun vs H Q E h=>?_) (fun cdv A outer s H vs Q E hr h=>?_)
 . obtain ⟨p,a,b,t,c,d,m,ps,rs,xs,ys,rfl,_⟩:=h
   rfl
 . obtain ⟨p,a,b,t,c,d,m,ps,rs,xs,ys,rfl,W,ha,hz,hb,hy,k,e1,e2⟩:=h;have m1:=W.go.m1;refine ⟨_,(aN (b5 (mP yc (aZ rV (hr.mono (by decide)) wS.g iR.m iR.F.kp iR.b .nil gA (ah (pvl 0 OI) (ah (pvl 1 IQ) (ah (pvl 2 Ly) (ah aH ax)))) (hdb:=wS.d)) aH (b7 _)))),?_⟩;rw [show L2.start ["web","laying","wish"] [V.ref p,V.ref a,V.ref b]=[some (V.ref p),some (V.ref a),some (V.ref b)] from rfl];walk_at "rd";refine ⟨p,a,b,t,c,d,m,ps,rs,xs,ys,0,rfl,W,ha,hz,hb,hy,fun fi fj _ _=>?_,e1,e2,fun _ _ z=>absurd ⟨i9 _,by omega⟩ z⟩;obtain ⟨par,dep,R,k⟩:=k fi fj;exact ⟨par,dep,R,fun H' s'=>⟨_,rfl,k H' s'⟩⟩
theorem Ni {m:Int} {rs:List Road} {PAR:Int->Int->Int} {DEP:Int->Int->Nat} {xs ys:List Int} {i:Nat}:sB m rs PAR DEP xs ys (i+1)=sB m rs PAR DEP xs ys i++[gat m rs i (PAR i) (DEP i) (fun v=>(jg m xs ys).getD v.toNat 0) (hnd rs (PAR i)) i]:=by
 unfold sB;rw [Dl,aK]
 rfl
def Bn (T:Txt K mg):Sp:=fun vs H Q _=>∃ (p a b t:Addr) (c d:Bool) (m:Int) (ps:List Addr) (rs:List Road) (xs ys:List Int) (PAR:Int->Int->Int) (DEP:Int->Int->Nat),vs=[.ref p,.ref a,.ref b]/\WebAt T.Web H p m t ps rs/\SqX K c H a (xs.map V.int)/\bL m xs=true/\SqX K d H b (ys.map V.int)/\bL m ys=true/\(∀ r,0<=r->r<m->Rooted m rs r (PAR r) (DEP r)) /\
 ∀ l H',H l=none->Same H H'->H' l=some (.tup (((sB m rs PAR DEP xs ys m.toNat).map fun x=>-x).map V.int))->Q (.ref l) H'
abbrev gh:Stmt:=top 44
theorem SS:FnScope ["web","laying","wish"] ["web","laying","wish"] (ag gh):=FnScope.of (by kernel_rfl)
theorem La:NmC (ag gh) "web":=.of (by kernel_rfl)
theorem WN:NmC (ag gh) "laying":=.of (by kernel_rfl)
theorem ada:NmC (ag gh) "wish":=.of (by kernel_rfl)
theorem sH:NmG (ag gh) "tuple":=.of (by kernel_rfl)
theorem G0:NmG (ag gh) "range":=.of (by kernel_rfl)
theorem SE (T:Txt K mg) (hq:cr (CXe P w)) {f:Addr} {fd:FuncData} (D:Df K mg "lacks_of" gh ["web","laying","wish"] f fd) {jP:Addr} {tp:FuncData} (iR:Df K mg "standing" gg ["web","laying","wish","r"] jP tp) (rV:FnOk P w K mg base (CXe P w) 9 jP tp ["web","laying","wish","r"] (Bu T)):FnOk P w K mg base (CXe P w) 10 f fd ["web","laying","wish"] (Bn T):=by
 refine D.F.okC SS (fun vs H Q E h=>?_) (fun cdv A outer s H vs Q E hr h=>?_)
 . obtain ⟨p,a,b,t,c,d,m,ps,rs,xs,ys,PAR,DEP,rfl,_⟩:=h
   rfl
 . obtain ⟨p,a,b,t,c,d,m,ps,rs,xs,ys,PAR,DEP,rfl,W,ha,fx,hb,fy,RR,k⟩:=h;have g:=W.go;have m24:=g.m24;have m1:=g.m1;have xl:=C5 fx;have yl:=C5 fy;obtain ⟨dx,ob⟩:=W.ob;refine ⟨_,(aN (b5 (dN dM sH.g T.tuple iq (ah (wf rfl (wu (Nc:=["r","web","laying","wish"]) 1 [0,1,2] (by decide +kernel) rfl (by decide +kernel) rfl (by show ∀ (y:Str × NameKind),y∈_->y.2=NameKind.free->(ag gh).names.lookup y.1=some NameKind.cell;decide +kernel) rfl (fun _ h=>pJ h) (fun i hi=>match i,hi with|0,_=>⟨"web",0,rfl,rfl,rfl,by decide +kernel⟩|1,_=>⟨"laying",1,rfl,rfl,rfl,by decide +kernel⟩|2,_=>⟨"wish",2,rfl,rfl,rfl,by decide +kernel⟩|i+3,hi=>absurd hi (by show ¬ i+3<3;omega))) (uM G0.g T.range (ah (wV  (pvc 0 La) rfl) ax)) (fun _ _ _ _=>(bE (i:=0) (show (["r","web","laying","wish"]:List Str).Nodup from by decide +kernel) rfl (Or.inl rfl))) (fun _ _ _ _=>uK) (fun _ _ _ _=>(GO B9 (aZ rV (hr.mono (by decide)) (by rfl) iR.m iR.F.kp iR.b .nil (cJ hq) (ah (pv 1) (ah (pv 2) (ah (pv 3) (ah (pv 0) ax)))))))) ax) (hn:=sH.n) (hdb:=sH.d)))),?_⟩;rw [show L2.start ["web","laying","wish"] [V.ref p,V.ref a,V.ref b]=[some (V.ref p),some (V.ref a),some (V.ref b)] from rfl];walk_at "rd";refine ⟨T.Web,dx,_,ob,T.sN,T.n_many,_,uP m t,m,rfl,by omega,by omega,fun pc nc=>?_⟩;refine vh (fun i zs σ H3=>Same H H3/\H3 pc=some (.lst zs)/\zs=((sB m rs PAR DEP xs ys i).map fun x=>-x).map V.int/\∃ v,σ=[v,some (V.ref p),some (V.ref a),some (V.ref b)]) ⟨Same.new _ nc,aq,rfl,_,rfl⟩ ?_ ?_
   . rintro i zs σ H3 N hN hi ⟨s3,e3,rfl,v,rfl⟩;rw [iE];have i0:(0:Int)<=(i:Int):=(by omega);have i1:(i:Int)<m:=(by omega);walk_at "rd";refine ⟨p,a,b,t,c,d,m,ps,rs,xs,ys,(i:Int),rfl,W.same s3,Same.sqX s3 ha,by omega,Same.sqX s3 hb,by omega,fun _ _ _ _=>⟨PAR i,DEP i,RR i i0 i1,fun H4 s4=>?_⟩,(fun z=>by rw [fx] at z;cases z),(fun _ z=>by rw [fy] at z;cases z),fun _ _ z=>absurd ⟨i0,i1⟩ z⟩;refine ⟨_,rfl,s4 _ _ e3,gk (by rw [ak,ak,CW];omega),hN _ _ _ ⟨(s3.trans s4).put nc _,aq,?_,_,rfl⟩⟩;rw [Ni,aK,aK]
     rfl
   . rintro zs σ H3 ⟨s3,e3,rfl,v,rfl⟩;refine ⟨pc,rfl,_,.inl ⟨SqL.of e3,fun l nl=>?_⟩⟩;exact k l _ (s3.free nl) (s3.trans (Same.new _ nl)) aq
/-- whether the first row has at bIa as much at each place -/
def GP (xs ys:List Int):Bool:=(xs.zip ys).all fun p=>decide (p.2<=p.1)
def Na (T:Txt K mg):Sp:=fun vs H Q _=>∃ (a b:Addr) (c d:Bool) (xs ys:List Int),vs=[.ref a,.ref b]/\SqX K c H a (xs.map V.int)/\SqX K d H b (ys.map V.int)/\xs.length<=1000/\∀ H',Same H H'->Q (.bl (GP xs ys)) H'
abbrev kL:Stmt:=top 25
theorem W9:FnScope ["laying","numbers"] ["laying","numbers"] (ag kL):=FnScope.of (by kernel_rfl)
theorem Jf:NmL (ag kL) "laying":=.of (by kernel_rfl)
theorem Hg:NmL (ag kL) "numbers":=.of (by kernel_rfl)
theorem xi:NmG (ag kL) "all":=.of (by kernel_rfl)
theorem Ou:NmG (ag kL) "zip":=.of (by kernel_rfl)
theorem X3 (T:Txt K mg) (hq:cr (CXe P w)) {f:Addr} {fd:FuncData} (D:Df K mg "covers" kL ["laying","numbers"] f fd):FnOk P w K mg base (CXe P w) 1 f fd ["laying","numbers"] (Na T):=by
 refine D.F.okC W9 (fun vs H Q E h=>?_) (fun cdv A outer s H vs Q E hr h=>?_)
 . obtain ⟨a,b,c,d,xs,ys,rfl,_⟩:=h
   rfl
 . obtain ⟨a,b,c,d,xs,ys,rfl,ha,hb,hz,k⟩:=h;refine ⟨_,(aN (b5 (fG (JK rfl) xi.g T.all Pp (ah (wf rfl (Jw (Nc:=["has","least"]) 2 (by decide +kernel) (by decide +kernel) rfl (by decide +kernel) rfl) (dpa c d Ou.g T.zip (ah (pvl 0 Jf) (ah (pvl 1 Hg) ax))) (fun _ _ _ _=>(cfa K rfl (n:=2) rfl (c7 (bE (i:=0) (show (["has","least"]:List Str).Nodup from by decide +kernel) rfl (Or.inl rfl)) (c7 (bE (i:=1) (show (["has","least"]:List Str).Nodup from by decide +kernel) rfl (Or.inl rfl)) oF)))) (fun _ _ _ _=>uK) (fun _ _ _ _=>(mP yc (pv 0) (pv 1) (b7 _)))) ax) (hn:=xi.n) (hdb:=xi.d)))),?_⟩;rw [show L2.start ["laying","numbers"] [V.ref a,V.ref b]=[some (V.ref a),some (V.ref b)] from rfl];walk_at "rd";refine ⟨a,b,⟨rfl,rfl⟩,⟨_,ha⟩,⟨_,hb⟩,fun p hp=>?_⟩;refine ZN (K:=K) (c:=c) (d:=d) (xs:=xs.map V.int) (zs:=ys.map V.int) (fun i bs σ H2=>Same H H2/\H2 p=some (.lst bs)/\bs=(((xs.zip ys).take i).map fun q=>decide (q.2<=q.1)).map V.bl/\∃ v w,σ=[v,w]) ⟨Same.new _ hp,aq,rfl,_,_,rfl⟩ (fun i bs σ H2 z=>⟨Same.sqX z.1 ha,Same.sqX z.1 hb⟩) ?_ ?_
   . rintro i x z bs σ H2 q N hN hx hz' ⟨s2,e2,rfl,v,w,rfl⟩ hq;rw [aU] at hx hz';obtain ⟨x,gx,rfl⟩:=bM.mp hx;obtain ⟨z,gz,rfl⟩:=bM.mp hz';have s3:=Same.new (.tup [V.int x,V.int z]) hq;have hix:=(aB.mp gx).1;walk_at "rd";refine ⟨_,SqT.of aq,rfl,_,_,rfl,_,_,rfl,rfl,?_⟩;walk_at "rd";refine ⟨s3 _ _ e2,gk (by simp;omega),hN _ _ _ ⟨(s2.trans s3).put hp _,aq,?_,_,_,rfl⟩⟩;have hzz:(xs.zip ys)[i]?=some (x,z):=(by rw [List.getElem?_zip_eq_some];exact ⟨gx,gz⟩);rw [bS,hzz,aK,aK]
     rfl
   . rintro bs σ H2 ⟨s2,e2,rfl,v,w,rfl⟩;refine ⟨p,rfl,_,SqL.of e2,?_⟩;have e:(((xs.zip ys).take (min (xs.map V.int).length (ys.map V.int).length)).map fun q=>decide (q.2<=q.1)).all id=GP xs ys:=by
       rw [c6 (by rw [nD,ak,ak];exact aA _),List.all_map]
       rfl
     rw [e];exact k _ s2
def vH (T:Txt K mg):Sp:=fun vs H Q _=>∃ (ea fI:Addr) (n:Int),vs=[.ref ea,.int n]/\H ea=some (ExN ea (.ref T.BadStep) none)/\GK K T.BadStep fI/\∀ dx,H dx=none->dx≠ea->Q .non (upd (upd H ea (ExN ea (.ref T.BadStep) (some dx))) dx (.xd [("at",.int n)]))
abbrev d7:Stmt:=Tp (top 7) 0
theorem Ex:FnScope ["self","at"] ["self","at"] (ag d7):=FnScope.of (by kernel_rfl)
theorem qV:NmL (ag d7) "self":=.of (by kernel_rfl)
theorem sJ:NmL (ag d7) "at":=.of (by kernel_rfl)
theorem oh:NmG (ag d7) "TollError":=.of (by kernel_rfl)
theorem EM (T:Txt K mg) (hq:cr (CXe P w)) {f:Addr} {fd:FuncData} (F:Fun K "__init__" "BadStep.__init__" d7 f fd):FnOk P w K mg base (CXe P w) 1 f fd ["self","at"] (vH T):=by
 refine F.okC Ex (fun vs H Q E h=>?_) (fun cdv A outer s H vs Q E hr h=>?_)
 . obtain ⟨ea,fI,n,rfl,_⟩:=h
   rfl
 . obtain ⟨ea,fI,n,rfl,he,xo,k⟩:=h;refine ⟨_,(aF (dy (Th T.Ta oh.g T.Sj (ah (pvl 0 qV) (ah (pvl 1 sJ) ax)) (hdb:=oh.d))) (aN (cza rfl (pvl 0 qV) (pvl 1 sJ) rfl))),?_⟩;rw [show L2.start ["self","at"] [V.ref ea,V.int n]=[some (V.ref ea),some (V.int n)] from rfl];show ∃ v,_;refine ⟨V.ref ea,rfl,V.int n,rfl,?_⟩;refine ⟨ea,T.BadStep,fI,none,[V.int n],rfl,bn (by simp),xo,he,?_⟩;show ∃ v,_;refine ⟨V.int n,rfl,V.ref ea,rfl,?_⟩;exact ⟨ea,T.BadStep,T.TollError,rfl,he,T.WY,k⟩
def Jn (T:Txt K mg):Sp:=fun vs H Q _=>∃ (p q t:Addr) (m:Int) (ps:List Addr) (rs:List Road) (s:Stp),vs=[.ref p,.ref q]/\WebAt T.Web H p m t ps rs/\H q=some (.tup (vSt s))/\tI m rs s=true/\Q (.int (s.2.2*tL rs s.1 s.2.1)) H
abbrev mL:Stmt:=top 31
theorem YY:FnScope ["web","step"] ["web","step"] (ag mL):=FnScope.of (by kernel_rfl)
theorem Q6:NmL (ag mL) "web":=.of (by kernel_rfl)
theorem xA:NmL (ag mL) "step":=.of (by kernel_rfl)
theorem En:NmG (ag mL) "toll":=.of (by kernel_rfl)
theorem aca (T:Txt K mg) (hq:cr (CXe P w)) {f:Addr} {fd:FuncData} (D:Df K mg "taken" mL ["web","step"] f fd) {sP:Addr} {Cv:FuncData} (ni:Df K mg "toll" jw ["web","a","b"] sP Cv) (y8:FnOk P w K mg base (CXe P w) 3 sP Cv ["web","a","b"] (LF T)):FnOk P w K mg base (CXe P w) 4 f fd ["web","step"] (Jn T):=by
 refine D.F.okC YY (fun vs H Q E h=>?_) (fun cdv A outer s H vs Q E hr h=>?_)
 . obtain ⟨p,q,t,m,ps,rs,s,rfl,_⟩:=h
   rfl
 . obtain ⟨p,q,t,m,ps,rs,s,rfl,W,hs,is,k⟩:=h;have g:=W.go;obtain ⟨kk,e1,e2,kr,br⟩:=FW g is;have ar:=(Dy is).1;refine ⟨_,(aN (b5 (aX qU (bu dR (pvl 1 xA) aH (fun _ _=>rfl)) (aZ y8 (hr.mono (by decide)) En.g ni.m ni.F.kp ni.b .nil (cJ hq) (ah (pvl 0 Q6) (ah (bu dR (pvl 1 xA) aH (fun _ _=>rfl)) (ah (bu dR (pvl 1 xA) aH (fun _ _=>rfl)) ax))) (hdb:=En.d))))),?_⟩;rw [show L2.start ["web","step"] [V.ref p,V.ref q]=[some (V.ref p),some (V.ref q)] from rfl];walk_at "rd";refine ixT hs rfl (ixT hs rfl (ixT hs rfl ?_));refine ex7 p t m ps rs s.1 s.2.1 ?_;refine an5 rfl W (fun k' _ _ _ _ h=>?_) (fun z=>absurd ⟨ar,br⟩ z) (fun _ _ _ _ z=>by rw [e1] at z;cases z);rw [e1] at h;cases h;rw [e2] at k;exact ⟨_,rfl,_,rfl,.inr ⟨by omega,by omega⟩,k⟩
def M7 (T:Txt K mg):Sp:=fun vs H Q _=>∃ (p a q t:Addr) (m:Int) (ps:List Addr) (rs:List Road) (xs:List Int) (s:Stp),vs=[.ref p,.ref a,.ref q]/\WebAt T.Web H p m t ps rs/\SqT K H a (xs.map V.int)/\(xs.length:Int)=m/\H q=some (.tup (vSt s))/\tI m rs s=true/\∀ l H',H l=none->Same H H'->H' l=some (.tup ((Ai rs xs s).map V.int))->Q (.ref l) H'
abbrev ir:Stmt:=top 32
theorem Nx:FnScope ["web","laying","step","counts"] ["web","laying","step"] (ag ir):=FnScope.of (by kernel_rfl)
theorem Os:NmL (ag ir) "web":=.of (by kernel_rfl)
theorem JC:NmL (ag ir) "laying":=.of (by kernel_rfl)
theorem rN:NmL (ag ir) "step":=.of (by kernel_rfl)
theorem pP:NmL (ag ir) "counts":=.of (by kernel_rfl)
theorem vP:NmG (ag ir) "list":=.of (by kernel_rfl)
theorem Ab:NmG (ag ir) "taken":=.of (by kernel_rfl)
theorem uZ:NmG (ag ir) "tuple":=.of (by kernel_rfl)
theorem WP (T:Txt K mg) (hq:cr (CXe P w)) {f:Addr} {fd:FuncData} (D:Df K mg "behind" ir ["web","laying","step"] f fd) {qu:Addr} {zW:FuncData} (oE:Df K mg "taken" mL ["web","step"] qu zW) (yB:FnOk P w K mg base (CXe P w) 4 qu zW ["web","step"] (Jn T)):FnOk P w K mg base (CXe P w) 5 f fd ["web","laying","step"] (M7 T):=by
 refine D.F.okC Nx (fun vs H Q E h=>?_) (fun cdv A outer s H vs Q E hr h=>?_)
 . obtain ⟨p,a,q,t,m,ps,rs,xs,s,rfl,_⟩:=h
   rfl
 . obtain ⟨p,a,q,t,m,ps,rs,xs,s,rfl,W,ha,xl,hs,is,k⟩:=h;have g:=W.go;have m24:=g.m24;obtain ⟨kk,e1,e2,kr,br⟩:=FW g is;have ar:=(Dy is).1;refine ⟨_,(aF (bz (i:=3) Nx.nd rfl (Or.inl pP.l) (dN lV vP.g T.list vX (ah (pvl 1 JC) ax) (hn:=vP.n) (hdb:=vP.d))) (aF (Lu (pvl 3 pP) (bu dR (pvl 2 rN) aH (fun _ _=>rfl)) Jd (aZ yB (hr.mono (by decide)) Ab.g oE.m oE.F.kp oE.b .nil (cJ hq) (ah (pvl 0 Os) (ah (pvl 2 rN) ax)) (hdb:=Ab.d)) eba kE) (aF (Lu (pvl 3 pP) (bu dR (pvl 2 rN) aH (fun _ _=>rfl)) Jd (bu dR (pvl 2 rN) aH (fun _ _=>rfl)) XC kE) (aN (b5 (dN dM uZ.g T.tuple iq (ah (pvl 3 pP) ax) (hn:=uZ.n) (hdb:=uZ.d))))))),?_⟩;rw [show L2.start ["web","laying","step","counts"] [V.ref p,V.ref a,V.ref q]=[some (V.ref p),some (V.ref a),some (V.ref q),none] from rfl];walk_at "rd";refine ⟨_,.inr ha,fun l nl=>?_⟩;have s1:=Same.new (.lst (xs.map V.int)) nl;have hs1:=s1 _ _ hs;have el:upd H l (.lst (xs.map V.int)) l=some (.lst (xs.map V.int)):=aq;generalize upd H l (.lst (xs.map V.int))=H1 at s1 hs1 el ⊢;refine ixT hs1 rfl (ixL el (atG ar.1 (by omega)) ?_);refine ex7 p q t m ps rs s ?_;refine an5 rfl (W.same s1) hs1 is ?_;refine ⟨_,rfl,_,rfl,Be el ar.1 (by rw [ak];omega) ?_⟩;rw [<- dJ];have nql:q≠l:=lA hs1 el (by intro z;cases z);have yl:(xs.set s.1.toNat (xs.getD s.1.toNat 0 - s.2.2*tL rs s.1 s.2.1)).length=xs.length:=by rw [cX]
   have hk:Ai rs xs s=(xs.set s.1.toNat (xs.getD s.1.toNat 0 - s.2.2*tL rs s.1 s.2.1)).set s.2.1.toNat ((xs.set s.1.toNat (xs.getD s.1.toNat 0 - s.2.2*tL rs s.1 s.2.1)).getD s.2.1.toNat 0+s.2.2):=rfl;generalize xs.set s.1.toNat (xs.getD s.1.toNat 0 - s.2.2*tL rs s.1 s.2.1)=ys at yl hk ⊢;have hs2:upd H1 l (.lst (ys.map V.int)) q=some (.tup (vSt s)):=by rw [aR nql];exact hs1
   refine ixT hs2 rfl (ixL aq (atG br.1 (by omega)) (ixT hs2 rfl ⟨_,rfl,_,rfl,Be aq br.1 (by rw [ak];omega) ?_⟩));rw [uC,<- dJ,<- hk];refine ⟨_,.inl ⟨SqL.of aq,fun l2 n2=>?_⟩⟩;have n20:H l2=none:=by
     have nl2:l2≠l:=fun z=>by rw [z,aq] at n2;cases n2
     rw [aR nl2] at n2;exact s1.free n2
   exact k l2 _ n20 ((s1.put nl _).trans (Same.new _ n2)) aq
def Lg (T:Txt K mg):Sp:=fun vs H Q _=>∃ (p q t:Addr) (m:Int) (ps:List Addr) (rs:List Road) (s:Stp),vs=[.ref p,.ref q]/\WebAt T.Web H p m t ps rs/\H q=some (.tup (vSt s))/\∀ H',Same H H'->Q (.bl (tI m rs s)) H'
abbrev jc:Stmt:=top 30
theorem UN:FnScope ["web","step"] ["web","step"] (ag jc):=FnScope.of (by kernel_rfl)
theorem Ci:NmL (ag jc) "web":=.of (by kernel_rfl)
theorem qK:NmL (ag jc) "step":=.of (by kernel_rfl)
theorem vJ:NmG (ag jc) "is_place":=.of (by kernel_rfl)
theorem uJ:NmG (ag jc) "neighbours":=.of (by kernel_rfl)
theorem Ve (T:Txt K mg) (hq:cr (CXe P w)) {f:Addr} {fd:FuncData} (D:Df K mg "is_step" jc ["web","step"] f fd) {gN:Addr} {lK:FuncData} (dW:Df K mg "is_place" ik ["many","number"] gN lK) (jM:FnOk P w K mg base (CXe P w) 1 gN lK ["many","number"] (wF T)) {hJ:Addr} {pZ:FuncData} (gC:Df K mg "neighbours" eV ["web","a"] hJ pZ) (o6:FnOk P w K mg base (CXe P w) 3 hJ pZ ["web","a"] (xa T)):FnOk P w K mg base (CXe P w) 4 f fd ["web","step"] (Lg T):=by
 refine D.F.okC UN (fun vs H Q E h=>?_) (fun cdv A outer s H vs Q E hr h=>?_)
 . obtain ⟨p,q,t,m,ps,rs,s,rfl,_⟩:=h
   rfl
 . obtain ⟨p,q,t,m,ps,rs,s,rfl,W,hs,k⟩:=h;obtain ⟨dx,ob⟩:=W.ob;refine ⟨_,(aN (b5 (zz (aZ jM (hr.mono (by decide)) vJ.g dW.m dW.F.kp dW.b .nil (cJ hq) (ah (wV  (pvl 0 Ci) rfl) (ah (bu dR (pvl 1 qK) aH (fun _ _=>rfl)) ax)) (hdb:=vJ.d)) (zz (mP Xj (bu dR (pvl 1 qK) aH (fun _ _=>rfl)) (aZ o6 (hr.mono (by decide)) uJ.g gC.m gC.F.kp gC.b .nil (cJ hq) (ah (pvl 0 Ci) (ah (bu dR (pvl 1 qK) aH (fun _ _=>rfl)) ax)) (hdb:=uJ.d)) (by with_unfolding_all rfl)) (BT (mP yc (bu dR (pvl 1 qK) aH (fun _ _=>rfl)) aH (b7 _))))))),?_⟩;rw [show L2.start ["web","step"] [V.ref p,V.ref q]=[some (V.ref p),some (V.ref q)] from rfl];walk_at "rd";refine ⟨T.Web,dx,_,ob,T.sN,T.n_many,_,uP m t,ixT hs rfl ⟨m,s.1,rfl,?_⟩⟩;refine ⟨_,rfl,?_⟩;have kk:∀ H',Same H H'->Q (.bl (decide (0<=s.1) && decide (s.1<m) && decide (s.2.1∈nO m rs s.1) && decide (1<=s.2.2))) H':=k;by_cases c:(decide (0<=s.1) && decide (s.1<m))=true
   . rw [am c];rw [c,ju] at kk;have ar:0<=s.1/\s.1<m:=by
       rw [bq] at c;exact ⟨cz c.1,cz c.2⟩
     refine ixT hs rfl (ixT hs rfl ?_);refine ex6 p t m ps rs s.1 ?_;refine an4 rfl W (fun l H1 _ _ nl s1 el=>?_) (fun z=>absurd ar z);refine inL el ⟨_,rfl,?_⟩;by_cases d:s.2.1∈nO m rs s.1
     . rw [bH d,ju] at kk;rw [am (by rw [bH d];rfl)];exact ixT (s1 _ _ hs) rfl ⟨_,rfl,kk H1 s1⟩
     . rw [bZ d,ff] at kk;rw [aj (by rw [bZ d];decide)];exact kk H1 s1
   . rw [aj c];rw [show (decide (0<=s.1) && decide (s.1<m))=false by simpa using c,ff,ff] at kk;exact kk H (Same.refl _)
def B8 (T:Txt K mg):Sp:=fun vs H Q _=>∃ (p a q t:Addr) (m:Int) (ps:List Addr) (rs:List Road) (xs:List Int) (s:Stp),vs=[.ref p,.ref a,.ref q]/\WebAt T.Web H p m t ps rs/\SqT K H a (xs.map V.int)/\(xs.length:Int)=m/\H q=some (.tup (vSt s))/\∀ H',Same H H'->Q (.bl (mm m rs xs s)) H'
abbrev eR:Stmt:=top 29
theorem Mz:FnScope ["web","laying","step"] ["web","laying","step"] (ag eR):=FnScope.of (by kernel_rfl)
theorem wR:NmL (ag eR) "web":=.of (by kernel_rfl)
theorem B7:NmL (ag eR) "laying":=.of (by kernel_rfl)
theorem qC:NmL (ag eR) "step":=.of (by kernel_rfl)
theorem sK:NmG (ag eR) "is_step":=.of (by kernel_rfl)
theorem vC:NmG (ag eR) "taken":=.of (by kernel_rfl)
theorem Mu (T:Txt K mg) (hq:cr (CXe P w)) {f:Addr} {fd:FuncData} (D:Df K mg "can_be_done" eR ["web","laying","step"] f fd) {rm:Addr} {J7:FuncData} (uN:Df K mg "is_step" jc ["web","step"] rm J7) (Fw:FnOk P w K mg base (CXe P w) 4 rm J7 ["web","step"] (Lg T)) {qu:Addr} {zW:FuncData} (oE:Df K mg "taken" mL ["web","step"] qu zW) (yB:FnOk P w K mg base (CXe P w) 4 qu zW ["web","step"] (Jn T)):FnOk P w K mg base (CXe P w) 5 f fd ["web","laying","step"] (B8 T):=by
 refine D.F.okC Mz (fun vs H Q E h=>?_) (fun cdv A outer s H vs Q E hr h=>?_)
 . obtain ⟨p,a,q,t,m,ps,rs,xs,s,rfl,_⟩:=h
   rfl
 . obtain ⟨p,a,q,t,m,ps,rs,xs,s,rfl,W,ha,xl,hs,k⟩:=h;refine ⟨_,(aN (b5 (zz (aZ Fw (hr.mono (by decide)) sK.g uN.m uN.F.kp uN.b .nil (cJ hq) (ah (pvl 0 wR) (ah (pvl 2 qC) ax)) (hdb:=sK.d)) (BT (mP yc (bu dR (pvl 1 B7) (bu dR (pvl 2 qC) aH (fun _ _=>rfl)) (fun _ _=>rfl)) (aZ yB (hr.mono (by decide)) vC.g oE.m oE.F.kp oE.b .nil (cJ hq) (ah (pvl 0 wR) (ah (pvl 2 qC) ax)) (hdb:=vC.d)) (b7 _)))))),?_⟩;rw [show L2.start ["web","laying","step"] [V.ref p,V.ref a,V.ref q]=[some (V.ref p),some (V.ref a),some (V.ref q)] from rfl];walk_at "rd";refine ex7 p q t m ps rs s ?_;refine an4 rfl W hs (fun H1 s1=>⟨_,rfl,?_⟩);by_cases c:tI m rs s=true
   . rw [am c];have ar:=(Dy c).1;refine ixT (s1 _ _ hs) rfl (a9a (Same.tup s1 ha) (atG ar.1 (by omega)) ?_);refine ex7 p q t m ps rs s ?_;refine an5 rfl (W.same s1) (s1 _ _ hs) c ?_;have:=k H1 s1;unfold mm at this;rw [c,ju] at this;exact ⟨_,rfl,_,rfl,this⟩
   . rw [aj c];have:=k H1 s1;unfold mm at this;rw [show tI m rs s=false by simpa using c,ff] at this;exact this
def Kw (T:Txt K mg):Sp:=fun vs H Q E=>∃ (p a b t:Addr) (c d:Bool) (m:Int) (ps qs:List Addr) (rs:List Road) (xs:List Int) (ss:List Stp),vs=[.ref p,.ref a,.ref b]/\WebAt T.Web H p m t ps rs/\AtX c H a (xs.map V.int)/\xs.length<=1000/\AtX d H b (qs.map V.ref)/\StepsAt H qs ss/\ss.length<=1000 /\
 (bL m xs=true->yC m rs xs ss->∀ l ts H',H l=none->Same H H'->H' l=some (.lst (ts.map V.ref))->TupsAt H' ts (Aw rs xs ss)->Q (.ref l) H') /\
 (bL m xs=true->∀ i dx H',FirstBad m rs xs ss i->Same H H'->H' dx=some (.xd [("at",.int (i:Int))])->E (.ref T.BadStep) (some dx) H')/\(bL m xs=false->∀ H',Same H H'->E (.ref T.BadLaying) none H')
abbrev fe:Stmt:=top 28
theorem yf:FnScope ["web","laying","steps","passed","at","step"] ["web","laying","steps"] (ag fe):=FnScope.of (by kernel_rfl)
theorem wt:NmL (ag fe) "web":=.of (by kernel_rfl)
theorem GV:NmL (ag fe) "laying":=.of (by kernel_rfl)
theorem IV:NmL (ag fe) "steps":=.of (by kernel_rfl)
theorem kQ:NmL (ag fe) "passed":=.of (by kernel_rfl)
theorem D9:NmL (ag fe) "at":=.of (by kernel_rfl)
theorem vb:NmL (ag fe) "step":=.of (by kernel_rfl)
theorem vB:NmG (ag fe) "laying_of":=.of (by kernel_rfl)
theorem CM:NmG (ag fe) "enumerate":=.of (by kernel_rfl)
theorem sT:NmG (ag fe) "can_be_done":=.of (by kernel_rfl)
theorem wH:NmG (ag fe) "BadStep":=.of (by kernel_rfl)
theorem yb:NmG (ag fe) "behind":=.of (by kernel_rfl)
theorem U8 (T:Txt K mg) (hq:cr (CXe P w)) {f:Addr} {fd:FuncData} (D:Df K mg "layings" fe ["web","laying","steps"] f fd) {f_BadStep___init__:Addr} {qE:FuncData} (m9:Fun K "__init__" "BadStep.__init__" d7 f_BadStep___init__ qE) (ES:Binds K qE ["self","at"] []) (Ay:GK K T.BadStep f_BadStep___init__) (G_BadStep_init:FnOk P w K mg base (CXe P w) 1 f_BadStep___init__ qE ["self","at"] (vH T)) {tY:Addr} {Nj:FuncData} (vU:Df K mg "behind" ir ["web","laying","step"] tY Nj) (Jg:FnOk P w K mg base (CXe P w) 5 tY Nj ["web","laying","step"] (M7 T)) {kJ:Addr} {Cr:FuncData} (mJ:Df K mg "can_be_done" eR ["web","laying","step"] kJ Cr) (xb:FnOk P w K mg base (CXe P w) 5 kJ Cr ["web","laying","step"] (B8 T)) {iI:Addr} {rp:FuncData} (ie:Df K mg "laying_of" fK ["web","numbers"] iI rp) (qi:FnOk P w K mg base (CXe P w) 2 iI rp ["web","numbers"] (zB T)):FnOk P w K mg base (CXe P w) 6 f fd ["web","laying","steps"] (Kw T):=by
 refine D.F.okX yf (fun vs H Q E h=>?_) (fun cdv A outer s H vs Q E hr h=>?_)
 . obtain ⟨p,a,b,t,c,d,m,ps,qs,rs,xs,ss,rfl,_⟩:=h
   rfl
 . obtain ⟨p,a,b,t,c,d,m,ps,qs,rs,xs,ss,rfl,W,ha,x1,hb,hs,sl,k,kb,kl⟩:=h;have g:=W.go;have m24:=g.m24;refine ⟨_,(aF (bz (i:=3) yf.nd rfl (Or.inl kQ.l) (eE (ah (aZ qi (hr.mono (by decide)) vB.g ie.m ie.F.kp ie.b .nil gA (ah (pvl 0 wt) (ah (pvl 1 GV) ax)) (hdb:=vB.d)) ax))) (aF (gB PassesOwn.leaving rfl (b3a d CM.g T.enumerate (pvl 2 IV)) (rf (n:=2) rfl (c7 (bE (i:=4) yf.nd rfl (Or.inl D9.l)) (c7 (bE (i:=5) yf.nd rfl (Or.inl vb.l)) oF))) (aF (eN (sL (wJ (aZ xb (hr.mono (by decide)) sT.g mJ.m mJ.F.kp mJ.b .nil gA (ah (pvl 0 wt) (ah (bu b9 (pvl 3 kQ) (GO B9 aH) (fun _ _=>rfl)) (ah (pvl 5 vb) ax))) (hdb:=sT.d)))) (aN (Xx Ay G_BadStep_init hq (hr.mono (by decide)) ES rfl rfl cIa wH.g T.MI (ah (pvl 4 D9) ax) (hdb:=wH.d))) cU) (aN (dy (ki PySem.F.plainAttrs_list PySem.F.slot_list_append PySem.F.type_list_append eI (pvl 3 kQ) (ah (aZ Jg (hr.mono (by decide)) yb.g vU.m vU.F.kp vU.b .nil gA (ah (pvl 0 wt) (ah (bu b9 (pvl 3 kQ) (GO B9 aH) (fun _ _=>rfl)) (ah (pvl 5 vb) ax))) (hdb:=yb.d)) ax)))))) (aN (b5 (pvl 3 kQ))))),?_⟩;rw [show L2.start ["web","laying","steps","passed","at","step"] [V.ref p,V.ref a,V.ref b]=[some (V.ref p),some (V.ref a),some (V.ref b),none,none,none] from rfl];walk_at "rd";refine ex8 p a t c m ps rs xs ?_;refine an6 rfl W ha.sq x1 (fun fi t0 H1 s1 e1 _=>?_) kl;have xl:(xs.length:Int)=m:=by
     unfold bL at fi;rw [bq] at fi;exact cz fi.1
   have e1':H1 t0=some (.tup (xs.map V.int)):=by
     rcases e1 with e|⟨hc,rfl⟩
     . exact e
     . subst hc;exact s1 _ _ ha
   refine ⟨bn (by simp),fun l nl=>?_⟩;have s2:=Same.new (.lst [V.ref t0]) nl;have nl0:=s1.free nl;have s12:=s1.trans s2;have e2:=s2 _ _ e1';have el:upd H1 l (.lst [V.ref t0]) l=some (.lst [V.ref t0]):=aq;generalize upd H1 l (.lst [V.ref t0])=H2 at s2 s12 e2 el ⊢;have ql:qs.length=ss.length:=Paired.length hs;have hbX:∀ {H3:Hp},Same H H3->SqX K d H3 b (qs.map V.ref):=fun {H3} s3=>AtX.sq (K:=K) (show AtX d H3 b (qs.map V.ref) from s3 _ _ hb);refine ⟨⟨_,hbX s12⟩,?_⟩;refine Zj (K:=K) (c:=d) (xs:=qs.map V.ref) (fun i σ H3=>Same H H3/\i<=ss.length/\(∀ j s,j<i->ss[j]?=some s->mm m rs (fM rs xs ss j) s=true)/\∃ (ts:List Addr) (v4 v5:Option V),H3 l=some (.lst (ts.map V.ref))/\TupsAt H3 ts ((Aw rs xs ss).take (i+1))/\σ=[some (V.ref p),some (V.ref a),some (V.ref b),some (V.ref l),v4,v5]) ⟨s12,bi _,fun j s h=>absurd h (nG _),[t0],_,_,el,?_,rfl⟩ (fun i σ H3 z=>hbX z.1) ?_ ?_
   . have h0:=AI (rs:=rs) (xs:=xs) (ss:=ss) (i:=0) (bi _);rw [MF] at h0;rw [bS,h0,cR];exact .cons e2 .nil
   . rintro i x σ H3 q N hN hx ⟨s3,il,bf,ts,v4,v5,e3,ta,rfl⟩ nq;obtain ⟨qx,s,rfl,h1,h2,h3⟩:=(StepsAt.same s3 hs).get hx;have il2:i<ss.length:=(aB.mp h2).1;have s4:=Same.new (.tup [V.int (i:Int),V.ref qx]) nq;have tl:ts.length=((Aw rs xs ss).take (i+1)).length:=Paired.length ta;rw [bo,EV] at tl;have stl:=DM rs xs ss i;obtain ⟨tq,htq⟩:∃ tq,ts[i]?=some tq:=⟨_,aD (by omega)⟩;obtain ⟨row,hr1,hr2⟩:=Lc ta htq;rw [gd (by omega),AI il] at hr1;cases hr1;have elast:∃ t',ts=t'++[tq]:=by
       refine ⟨ts.take i,?_⟩;have:=bS (l:=ts) (i:=i);rw [htq,c6 (by omega)] at this;exact this
     obtain ⟨t',et'⟩:=elast;have e3':H3 l=some (.lst (t'.map V.ref++[V.ref tq])):=(by rw [e3,et',aK];rfl);walk_at "rd";refine ⟨_,SqT.of aq,rfl,_,_,rfl,_,_,rfl,rfl,?_⟩;refine ixL (s4 _ _ e3') (Jk _ _) ?_;refine ⟨p,tq,qx,t,m,ps,rs,fM rs xs ss i,s,rfl,W.same (s3.trans s4),SqT.of (s4 _ _ hr2),by omega,s4 _ _ h3,fun H5 s5=>⟨_,rfl,?_⟩⟩;have s35:=s4.trans s5;cases cd:mm m rs (fM rs xs ss i) s
     . rw [am rfl];refine ⟨V.int (i:Int),rfl,bn (by simp),fun ea ne=>⟨ea,f_BadStep___init__,_,rfl,aq,Ay,fun dx nd nde=>⟨rfl,some dx,?_,?_⟩⟩⟩
       . rw [aR (Ne.symm nde),aq]
       . exact kb fi i dx _ ⟨bf,s,h2,cd⟩ ((s3.trans s35).trans (cVa ne nd nde)) (by rw [GC nde,aq])
     rw [aj (by decide)];have is:tI m rs s=true:=by
       unfold mm at cd;rw [bq] at cd;exact cd.1
     refine ⟨tyL (s35 _ _ e3'),ixL (s35 _ _ e3') (Jk _ _) ?_⟩;refine ⟨p,tq,qx,t,m,ps,rs,fM rs xs ss i,s,rfl,W.same (s3.trans s35),SqT.of (s35 _ _ hr2),by omega,s35 _ _ h3,is,fun tn H6 nn s6 en=>?_⟩;have s36:=s35.trans s6;have ntl:tn≠l:=fun z=>by rw [z,s35 _ _ e3'] at nn;cases nn
     refine uY (s36 _ _ e3) (gk (by rw [ak];omega)) (hN _ _ ⟨(s3.trans s36).put nl0 _,il2,fun j s' hj hs'=>?_,ts++[tn],_,_,by rw [aq,aK];rfl,?_,rfl⟩)
     . by_cases z:j=i
       . subst z;rw [h2] at hs';cases hs';exact cd
       . exact bf j s' (by omega) hs'
     rw [bS,AI (by omega),No h2];exact Tk (by rw [aR ntl];exact en) (Paired.imp' (fun a b h=>by rw [aR (lA (s36 _ _ h) (s36 _ _ e3) (by intro z;cases z))];exact s36 _ _ h) ta)
   . rintro σ H3 ⟨s3,il,bf,ts,v4,v5,e3,ta,rfl⟩;rw [ak,ql,c6 (by rw [EV];exact aA _)] at ta;walk_at "rd";refine k fi (fun j s hs=>bf j s ?_ hs) l ts H3 nl0 s3 e3 ta;rw [ak,ql];exact (aB.mp hs).1
def Nd (T:Txt K mg):Sp:=fun vs H Q E=>∃ (p a b t:Addr) (c d:Bool) (m:Int) (ps qs:List Addr) (rs:List Road) (xs:List Int) (ss:List Stp),vs=[.ref p,.ref a,.ref b]/\WebAt T.Web H p m t ps rs/\AtX c H a (xs.map V.int)/\xs.length<=1000/\AtX d H b (qs.map V.ref)/\StepsAt H qs ss/\ss.length<=1000 /\
 (bL m xs=true->yC m rs xs ss->∀ l H',Same H H'->H' l=some (.tup ((fM rs xs ss ss.length).map V.int))->Q (.ref l) H') /\
 (bL m xs=true->∀ i dx H',FirstBad m rs xs ss i->Same H H'->H' dx=some (.xd [("at",.int (i:Int))])->E (.ref T.BadStep) (some dx) H')/\(bL m xs=false->∀ H',Same H H'->E (.ref T.BadLaying) none H')
abbrev kM:Stmt:=top 27
theorem WT:FnScope ["web","laying","steps"] ["web","laying","steps"] (ag kM):=FnScope.of (by kernel_rfl)
theorem Oy:NmL (ag kM) "web":=.of (by kernel_rfl)
theorem IC:NmL (ag kM) "laying":=.of (by kernel_rfl)
theorem Ki:NmL (ag kM) "steps":=.of (by kernel_rfl)
theorem xU:NmG (ag kM) "layings":=.of (by kernel_rfl)
theorem XG (T:Txt K mg) (hq:cr (CXe P w)) {f:Addr} {fd:FuncData} (D:Df K mg "walked" kM ["web","laying","steps"] f fd) {q9:Addr} {K1:FuncData} (uL:Df K mg "layings" fe ["web","laying","steps"] q9 K1) (E2:FnOk P w K mg base (CXe P w) 6 q9 K1 ["web","laying","steps"] (Kw T)):FnOk P w K mg base (CXe P w) 7 f fd ["web","laying","steps"] (Nd T):=by
 refine D.F.okX WT (fun vs H Q E h=>?_) (fun cdv A outer s H vs Q E hr h=>?_)
 . obtain ⟨p,a,b,t,c,d,m,ps,qs,rs,xs,ss,rfl,_⟩:=h
   rfl
 . obtain ⟨p,a,b,t,c,d,m,ps,qs,rs,xs,ss,rfl,W,ha,x1,hb,hs,sl,k,kb,kl⟩:=h;refine ⟨_,(aN (b5 (bu b9 (aZ E2 (hr.mono (by decide)) xU.g uL.m uL.F.kp uL.b .nil gA (ah (pvl 0 Oy) (ah (pvl 1 IC) (ah (pvl 2 Ki) ax))) (hdb:=xU.d)) (GO B9 aH) (fun _ _=>rfl)))),?_⟩;rw [show L2.start ["web","laying","steps"] [V.ref p,V.ref a,V.ref b]=[some (V.ref p),some (V.ref a),some (V.ref b)] from rfl];walk_at "rd";refine e0a p a b t c d m ps qs rs xs ss ?_;refine ⟨rfl,W,ha,x1,hb,hs,sl,fun fi ca l ts H1 nl s1 el ta=>?_,kb,kl⟩;have tl:ts.length=(Aw rs xs ss).length:=Paired.length ta;rw [EV] at tl;obtain ⟨tq,htq⟩:∃ tq,ts[ss.length]?=some tq:=⟨_,aD (by omega)⟩;obtain ⟨row,hr1,hr2⟩:=Lc ta htq;rw [AI (aA _)] at hr1;cases hr1;have elast:ts=ts.take ss.length++[tq]:=by
     have:=bS (l:=ts) (i:=ss.length);rw [htq,c6 (by omega)] at this;exact this
   rw [elast,aK] at el;exact ixL el (Jk _ _) (k fi ca tq H1 s1 hr2)
def KS (T:Txt K mg):Sp:=fun vs H Q _=>∃ (p a b s t:Addr) (c d e:Bool) (m:Int) (ps qs:List Addr) (rs:List Road) (xs ys:List Int) (ss:List Stp),vs=[.ref p,.ref a,.ref b,.ref s]/\WebAt T.Web H p m t ps rs/\AtX c H a (xs.map V.int)/\bL m xs=true/\AtX d H b (ys.map V.int)/\AtX e H s (qs.map V.ref)/\StepsAt H qs ss/\ss.length<=1000 /\
 ∀ bv H',(bv=true↔yC m rs xs ss/\GP (fM rs xs ss ss.length) ys=true)->Same H H'->Q (.bl bv) H'
abbrev f9:Stmt:=top 46
theorem Kr:FnScope ["web","laying","wish","steps","left"] ["web","laying","wish","steps"] (ag f9):=FnScope.of (by kernel_rfl)
theorem Mb:NmL (ag f9) "web":=.of (by kernel_rfl)
theorem Hr:NmL (ag f9) "laying":=.of (by kernel_rfl)
theorem Ld:NmL (ag f9) "wish":=.of (by kernel_rfl)
theorem JI:NmL (ag f9) "steps":=.of (by kernel_rfl)
theorem Ao:NmL (ag f9) "left":=.of (by kernel_rfl)
theorem ya:NmG (ag f9) "walked":=.of (by kernel_rfl)
theorem wM:NmG (ag f9) "BadStep":=.of (by kernel_rfl)
theorem xR:NmG (ag f9) "covers":=.of (by kernel_rfl)
theorem UX (T:Txt K mg) (hq:cr (CXe P w)) {f:Addr} {fd:FuncData} (D:Df K mg "lead_to" f9 ["web","laying","wish","steps"] f fd) {tT:Addr} {M9:FuncData} (vN:Df K mg "covers" kL ["laying","numbers"] tT M9) (JJ:FnOk P w K mg base (CXe P w) 1 tT M9 ["laying","numbers"] (Na T)) {ue:Addr} {M8:FuncData} (vS:Df K mg "walked" kM ["web","laying","steps"] ue M8) (IW:FnOk P w K mg base (CXe P w) 7 ue M8 ["web","laying","steps"] (Nd T)):FnOk P w K mg base (CXe P w) 8 f fd ["web","laying","wish","steps"] (KS T):=by
 refine D.F.okC Kr (fun vs H Q E h=>?_) (fun cdv A outer s H vs Q E hr h=>?_)
 . obtain ⟨p,a,b,s,t,c,d,e,m,ps,qs,rs,xs,ys,ss,rfl,_⟩:=h
   rfl
 . obtain ⟨p,a,b,s,t,c,d,e,m,ps,qs,rs,xs,ys,ss,rfl,W,ha,fx,hb,hs,st,sl,k⟩:=h;have m24:=W.go.m24;have xl:=C5 fx;refine ⟨_,(aF (ema rfl rfl rfl (aEa (cCa (i:=4) Kr.nd rfl (Or.inl Ao.l) (bla IW (hr.mono (by decide)) ya.g vS.m vS.F.kp vS.b .nil (ah (pvl 0 Mb) (ah (pvl 1 Hr) (ah (pvl 3 JI) ax))) (hdb:=ya.d)))) (eva T.MN.x wM.g T.MI (fun _=>(aN (b5 GD))) doa (hdb:=wM.d))) (aN (b5 (aZ JJ (hr.mono (by decide)) xR.g vN.m vN.F.kp vN.b .nil (cJ hq) (ah (pvl 4 Ao) (ah (pvl 2 Ld) ax)) (hdb:=xR.d))))),?_⟩;rw [show L2.start ["web","laying","wish","steps","left"] [V.ref p,V.ref a,V.ref b,V.ref s]=[some (V.ref p),some (V.ref a),some (V.ref b),some (V.ref s),none] from rfl];walk_at "rd";refine ⟨p,a,s,t,c,e,m,ps,qs,rs,xs,ss,rfl,W,ha,by omega,hs,st,sl,fun _ ca l H1 s1 e1=>?_,fun _ i dx H1 fb s1 e1=>?_,(fun z=>by rw [fx] at z;cases z)⟩
   . refine ⟨l,b,false,d,_,ys,rfl,(show AtX false H1 l _ from e1).sq,(show AtX d H1 b (ys.map V.int) from s1 _ _ hb).sq,by rw [DM];omega,fun H2 s2=>k _ H2 ?_ (s1.trans s2)⟩;exact ⟨fun z=>⟨ca,z⟩,fun z=>z.2⟩
   . refine ⟨T.BadStep,rfl,true,by rw [T.MN.mr];simp,?_⟩;rw [am rfl];exact k false H1 ⟨(fun z=>by cases z),fun z=>(fb.not z.1).elim⟩ s1
theorem MV:∀ xs ys:List Int,PyData.eqvAll (xs.map PyData.int) (ys.map PyData.int)=true↔xs=ys
 | [],[]=>by simp [PyData.eqvAll]
 | [],y::ys=>by simp [PyData.eqvAll]
 | x::xs,[]=>by simp [PyData.eqvAll]
 | x::xs,y::ys=>by
   rw [aW,aW];simp only [PyData.eqvAll,PyData.eqv,bq,ja,List.cons.injEq,MV xs ys]
theorem RC (xs ys:List Int):PyData.eqv (Bx xs) (Bx ys)=true↔xs=ys:=by
 unfold Bx;simp only [PyData.eqv];exact MV xs ys
def MH (T:Txt K mg):Sp:=fun vs H Q E=>∃ (p a b an s t:Addr) (c d e:Bool) (m:Int) (ps:List Addr) (rs:List Road) (xs ys:List Int) (wd:Str),vs=[.ref p,.ref a,.ref b,.ref an]/\WebAt T.Web H p m t ps rs/\AtX c H a (xs.map V.int)/\xs.length<=1000/\AtX d H b (ys.map V.int)/\ys.length<=1000/\H an=some (.tup [.str wd,.ref s]) /\
 ((wd="steps"/\∃ qs ss,AtX e H s (qs.map V.ref)/\StepsAt H qs ss/\ss.length<=1000/\(bL m xs=true->bL m ys=true->∀ bv H',(bv=true↔yC m rs xs ss/\GP (fM rs xs ss ss.length) ys=true)->Same H H'->Q (.bl bv) H')) \/
  (wd="lack"/\∃ zs:List Int,AtX e H s (zs.map V.int)/\(bL m xs=true->bL m ys=true->∃ PAR DEP,(∀ r,0<=r->r<m->Rooted m rs r (PAR r) (DEP r))/\∀ bv H',(bv=true↔¬ 0<=stg m rs 0 (PAR 0) (DEP 0) ys xs 0/\zs=(sB m rs PAR DEP xs ys m.toNat).map fun x=>-x)->Same H H'->Q (.bl bv) H'))) /\
 (bL m xs=false->∀ H',Same H H'->E (.ref T.BadLaying) none H')/\(bL m xs=true->bL m ys=false->∀ H',Same H H'->E (.ref T.BadWish) none H')
abbrev gF:Stmt:=top 45
theorem ML:FnScope ["web","laying","wish","answer","met"] ["web","laying","wish","answer"] (ag gF):=FnScope.of (by kernel_rfl)
theorem xB:NmL (ag gF) "web":=.of (by kernel_rfl)
theorem um:NmL (ag gF) "laying":=.of (by kernel_rfl)
theorem vR:NmL (ag gF) "wish":=.of (by kernel_rfl)
theorem tN:NmL (ag gF) "answer":=.of (by kernel_rfl)
theorem Ef:NmL (ag gF) "met":=.of (by kernel_rfl)
theorem zx:NmG (ag gF) "is_met":=.of (by kernel_rfl)
theorem xZ:NmG (ag gF) "lead_to":=.of (by kernel_rfl)
theorem uS:NmG (ag gF) "tuple":=.of (by kernel_rfl)
theorem wY:NmG (ag gF) "lacks_of":=.of (by kernel_rfl)
theorem W1 (T:Txt K mg) (hq:cr (CXe P w)) {f:Addr} {fd:FuncData} (D:Df K mg "judged" gF ["web","laying","wish","answer"] f fd) {tZ:Addr} {NG:FuncData} (vM:Df K mg "is_met" kF ["web","laying","wish"] tZ NG) (Je:FnOk P w K mg base (CXe P w) 10 tZ NG ["web","laying","wish"] (MD T)) {pK:Addr} {Iq:FuncData} (rY:Df K mg "lacks_of" gh ["web","laying","wish"] pK Iq) (C9:FnOk P w K mg base (CXe P w) 10 pK Iq ["web","laying","wish"] (Bn T)) {rh:Addr} {Lk:FuncData} (uz:Df K mg "lead_to" f9 ["web","laying","wish","steps"] rh Lk) (FP:FnOk P w K mg base (CXe P w) 8 rh Lk ["web","laying","wish","steps"] (KS T)):FnOk P w K mg base (CXe P w) 11 f fd ["web","laying","wish","answer"] (MH T):=by
 refine D.F.okX ML (fun vs H Q E h=>?_) (fun cdv A outer s H vs Q E hr h=>?_)
 . obtain ⟨p,a,b,an,s,t,c,d,e,m,ps,rs,xs,ys,wd,rfl,_⟩:=h
   rfl
 . obtain ⟨p,a,b,an,s,t,c,d,e,m,ps,rs,xs,ys,wd,rfl,W,ha,x1,hb,y1,han,hw,e1,e2⟩:=h;have hv:=hr.units;have g:=W.go;have m1:=g.m1;have m24:=g.m24;refine ⟨_,(aF (bz (i:=4) ML.nd rfl (Or.inl Ef.l) (aZ Je (hr.mono (by decide)) zx.g vM.m vM.F.kp vM.b .nil gA (ah (pvl 0 xB) (ah (pvl 1 um) (ah (pvl 2 vR) ax))) (hdb:=zx.d))) (aF (eN (cn oB (bu dR (pvl 3 tN) aH (fun _ _=>rfl)) wO (b7 _)) (aN (b5 (aZ FP (hr.mono (by decide)) xZ.g uz.m uz.F.kp uz.b .nil gA (ah (pvl 0 xB) (ah (pvl 1 um) (ah (pvl 2 vR) (ah (bu dR (pvl 3 tN) aH (fun _ _=>rfl)) ax)))) (hdb:=xZ.d)))) cU) (aN (b5 (zz (dla (pvl 4 Ef)) (BT (mP (PK hv) (dN dM uS.g T.tuple iq (ah (bu dR (pvl 3 tN) aH (fun _ _=>rfl)) ax) (hn:=uS.n) (hdb:=uS.d)) (aZ C9 (hr.mono (by decide)) wY.g rY.m rY.F.kp rY.b .nil gA (ah (pvl 0 xB) (ah (pvl 1 um) (ah (pvl 2 vR) ax))) (hdb:=wY.d)) (b7 _)))))))),?_⟩;rw [show L2.start ["web","laying","wish","answer","met"] [V.ref p,V.ref a,V.ref b,V.ref an]=[some (V.ref p),some (V.ref a),some (V.ref b),some (V.ref an),none] from rfl];walk_at "rd";rcases hw with ⟨rfl,qs,ss,hs,st,sl,k⟩|⟨rfl,zs,hs,k⟩
   . refine ⟨p,a,b,t,c,d,m,ps,rs,xs,ys,rfl,W,ha.sq,x1,hb.sq,y1,fun fx fy=>?_,e1,e2⟩;obtain ⟨par,dep,R⟩:=B4 g (i9 0) (by omega);refine ⟨par,dep,R,fun H1 s1=>?_⟩;refine ixT (s1 _ _ han) rfl ⟨rfl,?_⟩;rw [am rfl];refine ixT (s1 _ _ han) rfl ?_;exact ⟨p,a,b,s,t,c,d,e,m,ps,qs,rs,xs,ys,ss,rfl,W.same s1,s1 _ _ ha,fx,s1 _ _ hb,s1 _ _ hs,StepsAt.same s1 st,sl,fun bv H2 hb2 s2=>k fx fy bv H2 hb2 (s1.trans s2)⟩
   . refine ⟨p,a,b,t,c,d,m,ps,rs,xs,ys,rfl,W,ha.sq,x1,hb.sq,y1,fun fx fy=>?_,e1,e2⟩;obtain ⟨PAR,DEP,RR,k⟩:=k fx fy;refine ⟨PAR 0,DEP 0,RR 0 (i9 _) (by omega),fun H1 s1=>?_⟩;refine ixT (s1 _ _ han) rfl ⟨rfl,?_⟩;rw [aj (fun z=>absurd (V.str.inj z) (by decide +kernel))];refine ⟨_,rfl,?_⟩;have s0:gat m rs 0 (PAR 0) (DEP 0) (fun v=>(jg m xs ys).getD v.toNat 0) (hnd rs (PAR 0)) 0=stg m rs 0 (PAR 0) (DEP 0) ys xs 0:=rfl;rw [s0];by_cases z:0<=stg m rs 0 (PAR 0) (DEP 0) ys xs 0
     . rw [aj (by rw [bH z];decide)];exact k false H1 ⟨(fun w=>by cases w),fun w=>absurd z w.1⟩ s1
     . rw [am (bZ z)];have fin:∀ (l:Addr) (H2:Hp),Same H H2->H2 l=some (.tup (zs.map V.int))->Bn T [V.ref p,V.ref a,V.ref b] H2 (fun y H2=>dXa K (V.ref l) y H2 Q) E:=fun l H2 s2 e2=>by
         refine ⟨p,a,b,t,c,d,m,ps,rs,xs,ys,PAR,DEP,rfl,W.same s2,(show AtX c H2 a (xs.map V.int) from s2 _ _ ha).sq,fx,(show AtX d H2 b (ys.map V.int) from s2 _ _ hb).sq,fy,RR,fun l2 H3 n3 s3 e3=>⟨_,_,Dq (s3 _ _ e2),Dq e3,?_,?_⟩⟩
         . have:=Xi zs;omega
         . exact k _ H3 ⟨fun w=>⟨z,(RC _ _).mp w⟩,fun w=>(RC _ _).mpr w.2⟩ (s2.trans s3)
       refine ixT (s1 _ _ han) rfl ⟨s,rfl,zs.map V.int,?_⟩;cases e with
       | true=>exact .inl ⟨SqL.of (s1 _ _ hs),fun l nl=>fin l _ (s1.trans (Same.new _ nl)) aq⟩
       | false=>exact .inr ⟨SqT.of (s1 _ _ hs),fin s H1 s1 (s1 _ _ hs)⟩
theorem isB {K:PySem.W.Frag} {H:Hp} {Q:VK} (b:Bool) (q:Q (.bl true) H):Ts K [V.bl b,V.ty "bool"] H Q:=⟨_,_,_,true,rfl,.bl b,fun cv hc=>by cases hc;rfl,q⟩
def OU (K:PySem.W.Frag):Sp:=fun vs H Q _=>∃ (a:Addr) (ns:List Int),vs=[.ref a]/\SqL K H a (ns.map V.int)/\ns.length<=63/\∀ H',Q (.bl true) H'
def efa (T:Txt K mg):Sp:=OU K
abbrev cT:Stmt:=top 64
theorem jq:FnScope ["script","many","roads","web","tolls","bound","laying","wish","handed","lacks","r","cell","steps","told","found","due","some"] ["script"] (ag cT):=FnScope.of (by kernel_rfl)
theorem ij:NmL (ag cT) "script":=.of (by kernel_rfl)
theorem iJ:NmC (ag cT) "many":=.of (by kernel_rfl)
theorem zK:NmL (ag cT) "roads":=.of (by kernel_rfl)
theorem yn:NmL (ag cT) "web":=.of (by kernel_rfl)
theorem qX:NmC (ag cT) "tolls":=.of (by kernel_rfl)
theorem zG:NmL (ag cT) "bound":=.of (by kernel_rfl)
theorem kq:NmC (ag cT) "laying":=.of (by kernel_rfl)
theorem nM:NmC (ag cT) "wish":=.of (by kernel_rfl)
theorem mM:NmL (ag cT) "handed":=.of (by kernel_rfl)
theorem vk:NmL (ag cT) "lacks":=.of (by kernel_rfl)
theorem Ir:NmL (ag cT) "r":=.of (by kernel_rfl)
theorem wG:NmL (ag cT) "cell":=.of (by kernel_rfl)
theorem re:NmL (ag cT) "steps":=.of (by kernel_rfl)
theorem wC:NmL (ag cT) "told":=.of (by kernel_rfl)
theorem oU:NmL (ag cT) "found":=.of (by kernel_rfl)
theorem C3:NmL (ag cT) "due":=.of (by kernel_rfl)
theorem Bb:NmL (ag cT) "some":=.of (by kernel_rfl)
theorem gJ:NmG (ag cT) "_law_drawn":=.of (by kernel_rfl)
theorem yQ:NmG (ag cT) "_law_roads":=.of (by kernel_rfl)
theorem JX:NmG (ag cT) "Web":=.of (by kernel_rfl)
theorem fo:NmG (ag cT) "list":=.of (by kernel_rfl)
theorem y9:NmG (ag cT) "_law_tolls":=.of (by kernel_rfl)
theorem zI:NmG (ag cT) "_law_bound":=.of (by kernel_rfl)
theorem xJ:NmG (ag cT) "_law_laying":=.of (by kernel_rfl)
theorem AG:NmG (ag cT) "_law_wish":=.of (by kernel_rfl)
theorem Av:NmG (ag cT) "_law_edge":=.of (by kernel_rfl)
theorem Qo:NmG (ag cT) "range":=.of (by kernel_rfl)
theorem Of:NmG (ag cT) "sorted":=.of (by kernel_rfl)
theorem UV:NmG (ag cT) "set":=.of (by kernel_rfl)
theorem uI:NmG (ag cT) "_law_steps_else":=.of (by kernel_rfl)
theorem zn:NmG (ag cT) "_law_steps":=.of (by kernel_rfl)
theorem fU:NmG (ag cT) "tuple":=.of (by kernel_rfl)
theorem mK:NmG (ag cT) "judged":=.of (by kernel_rfl)
theorem xS:NmG (ag cT) "_law_covers":=.of (by kernel_rfl)
theorem Ae:NmG (ag cT) "_law_done":=.of (by kernel_rfl)
theorem iY:NmG (ag cT) "isinstance":=.of (by kernel_rfl)
theorem qa:NmG (ag cT) "bool":=.of (by kernel_rfl)
theorem uE:NmG (ag cT) "_law_lacks_else":=.of (by kernel_rfl)
theorem d8a (T:Txt K mg) (hq:cr (CXe P w)) {f:Addr} {fd:FuncData} (D:Df K mg "law" cT ["script"] f fd) {f_Web___init__:Addr} {vt:FuncData} (r6:Fun K "__init__" "Web.__init__" cQ f_Web___init__ vt) (VI:Binds K vt ["self","many","roads"] []) (UB:Mk K T.Web f_Web___init__) (G_Web_init:FnOk P w K mg base (CXe P w) 3 f_Web___init__ vt ["self","many","roads"] (vE T)) {nQ:Addr} {ET:FuncData} (qk:Df K mg "_law_bound" ig ["script"] nQ ET) (Bi:FnOk P w K mg base (CXe P w) 2 nQ ET ["script"] (Ft T)) {md:Addr} {Eb:FuncData} (oG:Df K mg "_law_covers" eU ["held","wish"] md Eb) (zH:FnOk P w K mg base (CXe P w) 1 md Eb ["held","wish"] (Ek T)) {py:Addr} {HM:FuncData} (rO:Df K mg "_law_done" fu ["tolls","laying","steps"] py HM) (C6:FnOk P w K mg base (CXe P w) 1 py HM ["tolls","laying","steps"] (HQ T)) {cL:Addr} {dC:FuncData} (bc:Df K mg "_law_drawn" dj ["script","k"] cL dC) (cx:FnOk P w K mg base (CXe P w) 1 cL dC ["script","k"] (lU T)) {pH:Addr} {Ii:FuncData} (rS:Df K mg "_law_edge" eF ["script","tolls","many","laying","wish"] pH Ii) (D4:FnOk P w K mg base (CXe P w) 3 pH Ii ["script","tolls","many","laying","wish"] (HY T)) {iu:Addr} {xK:FuncData} (jB:Df K mg "_law_lacks_else" cH ["lacks","cell"] iu xK) (ug:FnOk P w K mg base (CXe P w) 1 iu xK ["lacks","cell"] (xO T)) {mf:Addr} {Es:FuncData} (oH:Df K mg "_law_laying" dF ["script","many","bound"] mf Es) (zo:FnOk P w K mg base (CXe P w) 2 mf Es ["script","many","bound"] (Ev T)) {nu:Addr} {Ga:FuncData} (qd:Df K mg "_law_roads" c9 ["script","many","shape"] nu Ga) (A5:FnOk P w K mg base (CXe P w) 2 nu Ga ["script","many","shape"] (Gn T)) {dH:Addr} {gK:FuncData} (cK:Df K mg "_law_standings" bO ["tolls","many","laying","wish","r"] dH gK) (gi:FnOk P w K mg base (CXe P w) 2 dH gK ["tolls","many","laying","wish","r"] (pF T)) {nV:Addr} {FU:FuncData} (qt:Df K mg "_law_steps" cW ["tolls","many","laying","wish","r"] nV FU) (Bl:FnOk P w K mg base (CXe P w) 3 nV FU ["tolls","many","laying","wish","r"] (Gb T)) {iy:Addr} {xT:FuncData} (jD:Df K mg "_law_steps_else" bT ["steps","tolls","cell","many"] iy xT) (uq:FnOk P w K mg base (CXe P w) 2 iy xT ["steps","tolls","cell","many"] (xY T)) {nJ:Addr} {Gw:FuncData} (qh:Df K mg "_law_tolls" fL ["roads"] nJ Gw) (BH:FnOk P w K mg base (CXe P w) 1 nJ Gw ["roads"] (Gz T)) {pw:Addr} {HE:FuncData} (rM:Df K mg "_law_wish" eW ["script","many","bound"] pw HE) (D6:FnOk P w K mg base (CXe P w) 2 pw HE ["script","many","bound"] (HV T)) {tS:Addr} {MU:FuncData} (kH:Df K mg "judged" gF ["web","laying","wish","answer"] tS MU) (yF:FnOk P w K mg base (CXe P w) 11 tS MU ["web","laying","wish","answer"] (MH T)):FnOk P w K mg base (CXe P w) 12 f fd ["script"] (efa T):=by
 refine D.F.okC jq (fun vs H Q E h=>?_) (fun cdv A outer s H vs Q E hr h=>?_)
 . obtain ⟨a,ns,rfl,_⟩:=h
   rfl
 . obtain ⟨a,ns,rfl,ha,hn,k⟩:=h;have hv:=hr.units;have hu:=Ar hr;refine ⟨_,(aF (bz (i:=1) jq.nd rfl (Or.inr iJ.l) (aX jt aH (aX dU (aX gO (aZ cx (hr.mono (by decide)) gJ.g bc.m bc.F.kp bc.b .nil (cJ hq) (ah (pvl 0 ij) (ah aH ax)) (hdb:=gJ.d)) aH) aH))) (aF (bz (i:=2) jq.nd rfl (Or.inl zK.l) (aZ A5 (hr.mono (by decide)) yQ.g qd.m qd.F.kp qd.b .nil (cJ hq) (ah (pvl 0 ij) (ah (pvc 1 iJ) (ah (aX dU (aX gO (aZ cx (hr.mono (by decide)) gJ.g bc.m bc.F.kp bc.b .nil (cJ hq) (ah (pvl 0 ij) (ah aH ax)) (hdb:=gJ.d)) aH) aH) ax))) (hdb:=yQ.d))) (aF (bz (i:=3) jq.nd rfl (Or.inl yn.l) (cda UB G_Web_init (hr.mono (by decide)) JX.g T.eya VI .nil (cJ hq) (ah (pvc 1 iJ) (ah (dN lV fo.g T.list vX (ah (pvl 2 zK) ax) (hn:=fo.n) (hdb:=fo.d)) ax)) (hdb:=JX.d))) (aF (bz (i:=4) jq.nd rfl (Or.inr qX.l) (aZ BH (hr.mono (by decide)) y9.g qh.m qh.F.kp qh.b .nil (cJ hq) (ah (pvl 2 zK) ax) (hdb:=y9.d))) (aF (bz (i:=5) jq.nd rfl (Or.inl zG.l) (aZ Bi (hr.mono (by decide)) zI.g qk.m qk.F.kp qk.b .nil (cJ hq) (ah (pvl 0 ij) ax) (hdb:=zI.d))) (aF (bz (i:=6) jq.nd rfl (Or.inr kq.l) (aZ zo (hr.mono (by decide)) xJ.g oH.m oH.F.kp oH.b .nil (cJ hq) (ah (pvl 0 ij) (ah (pvc 1 iJ) (ah (pvl 5 zG) ax))) (hdb:=xJ.d))) (aF (bz (i:=7) jq.nd rfl (Or.inr nM.l) (aZ D6 (hr.mono (by decide)) AG.g rM.m rM.F.kp rM.b .nil (cJ hq) (ah (pvl 0 ij) (ah (pvc 1 iJ) (ah (pvl 5 zG) ax))) (hdb:=AG.d))) (aF (dy (aZ D4 (hr.mono (by decide)) Av.g rS.m rS.F.kp rS.b .nil (cJ hq) (ah (pvl 0 ij) (ah (pvc 4 qX) (ah (pvc 1 iJ) (ah (pvc 6 kq) (ah (pvc 7 nM) ax))))) (hdb:=Av.d))) (aF (bz (i:=8) jq.nd rfl (Or.inl mM.l) (eE (ah (dN lV fo.g T.list vX (ah (pvc 6 kq) ax) (hn:=fo.n) (hdb:=fo.d)) (ah (dN lV fo.g T.list vX (ah (pvc 7 nM) ax) (hn:=fo.n) (hdb:=fo.d)) ax)))) (aF (Db (i:=9) jq.nd rfl vk.l rfl (wu (Nc:=["r","tolls","many","laying","wish"]) 1 [4,1,6,7] (by decide +kernel) rfl (by decide +kernel) rfl (by show ∀ (y:Str × NameKind),y∈_->y.2=NameKind.free->(ag cT).names.lookup y.1=some NameKind.cell;decide +kernel) rfl (fun _ h=>pJ h) (fun i hi=>match i,hi with|0,_=>⟨"tolls",4,rfl,rfl,rfl,by decide +kernel⟩|1,_=>⟨"many",1,rfl,rfl,rfl,by decide +kernel⟩|2,_=>⟨"laying",6,rfl,rfl,rfl,by decide +kernel⟩|3,_=>⟨"wish",7,rfl,rfl,rfl,by decide +kernel⟩|i+4,hi=>absurd hi (by show ¬ i+4<4;omega))) (uM Qo.g T.range (ah (pvc 1 iJ) ax)) (fun _ _ _ _=>(bE (i:=0) (show (["r","tolls","many","laying","wish"]:List Str).Nodup from by decide +kernel) rfl (Or.inl rfl))) (fun _ _ _ _=>uK) (fun _ _ _ _=>(aX pb aH (bu (Dh K rfl) (aZ gi (hr.mono (by decide)) (by rfl) cK.m cK.F.kp cK.b .nil (cJ hq) (ah (pv 1) (ah (pv 2) (ah (pv 3) (ah (pv 4) (ah (pv 0) ax)))))) (pv 0) (fun _ _=>rfl))))) (aF (gB PassesOwn.never rfl (mI (Pg rfl Of.g T.sorted UV.g T.set (ah (eE (ah aH (ah (aX dU (aX gO (aZ cx (hr.mono (by decide)) gJ.g bc.m bc.F.kp bc.b .nil (cJ hq) (ah (pvl 0 ij) (ah aH ax)) (hdb:=gJ.d)) aH) (pvc 1 iJ)) ax))) ax))) (bE (i:=10) jq.nd rfl (Or.inl Ir.l)) (aF (bz (i:=11) jq.nd rfl (Or.inl wG.l) (aX gO (aZ cx (hr.mono (by decide)) gJ.g bc.m bc.F.kp bc.b .nil (cJ hq) (ah (pvl 0 ij) (ah (pvl 10 Ir) ax)) (hdb:=gJ.d)) aH)) (aF (gB PassesOwn.never rfl (mI (aZ uq (hr.mono (by decide)) uI.g jD.m jD.F.kp jD.b .nil (cJ hq) (ah (aZ Bl (hr.mono (by decide)) zn.g qt.m qt.F.kp qt.b .nil (cJ hq) (ah (pvc 4 qX) (ah (pvc 1 iJ) (ah (pvc 6 kq) (ah (pvc 7 nM) (ah (pvl 10 Ir) ax))))) (hdb:=zn.d)) (ah (pvc 4 qX) (ah (pvl 11 wG) (ah (pvc 1 iJ) ax)))) (hdb:=uI.d))) (bE (i:=12) jq.nd rfl (Or.inl re.l)) (aF (bz (i:=13) jq.nd rfl (Or.inl wC.l) (bu b9 (eE (ah (dN lV fo.g T.list vX (ah (pvl 12 re) ax) (hn:=fo.n) (hdb:=fo.d)) (ah (dN dM fU.g T.tuple iq (ah (pvl 12 re) ax) (hn:=fU.n) (hdb:=fU.d)) ax))) (aX dU (pvl 11 wG) aH) (fun _ _=>rfl))) (aF (bz (i:=14) jq.nd rfl (Or.inl oU.l) (aZ yF (hr.mono (by decide)) mK.g kH.m kH.F.kp kH.b .nil (cJ hq) (ah (pvl 3 yn) (ah (bu b9 (pvl 8 mM) aH (fun _ _=>rfl)) (ah (bu b9 (pvl 8 mM) aH (fun _ _=>rfl)) (ah (dD (ah wO (ah (pvl 13 wC) ax))) ax)))) (hdb:=mK.d))) (aF (bz (i:=15) jq.nd rfl (Or.inl C3.l) (aZ zH (hr.mono (by decide)) xS.g oG.m oG.F.kp oG.b .nil (cJ hq) (ah (aZ C6 (hr.mono (by decide)) Ae.g rO.m rO.F.kp rO.b .nil (cJ hq) (ah (pvc 4 qX) (ah (pvc 6 kq) (ah (pvl 12 re) ax))) (hdb:=Ae.d)) (ah (pvc 7 nM) ax)) (hdb:=xS.d))) (aF (eN (PW.pt (GM (sL (wJ (fG Ie iY.g T.isinstance Ed (ah (pvl 14 oU) (ah (Ud (v:=.ty "bool") qa.g T.bool Uh rfl (hn:=qa.n) (hd:=qa.d)) ax)) (hn:=iY.n) (hdb:=iY.d)))) (GM (cn yw (pvl 14 oU) (pvl 15 C3) (b7 _)) (Kx (cn (dQa hv) (dN lV fo.g T.list vX (ah (pvl 13 wC) ax) (hn:=fo.n) (hdb:=fo.d)) (pvl 12 re) (b7 _)))))) (aN (b5 GD)) cU) (aN (eN (cn yw (aZ yF (hr.mono (by decide)) mK.g kH.m kH.F.kp kH.b .nil (cJ hq) (ah (pvl 3 yn) (ah (dN dM fU.g T.tuple iq (ah (pvc 6 kq) ax) (hn:=fU.n) (hdb:=fU.d)) (ah (dN dM fU.g T.tuple iq (ah (pvc 7 nM) ax) (hn:=fU.n) (hdb:=fU.d)) (ah (dD (ah wO (ah (pvl 13 wC) ax))) ax)))) (hdb:=mK.d)) (pvl 15 C3) (b7 _)) (aN (b5 GD)) cU))))))) (aN (gB PassesOwn.never rfl (mI (aZ ug (hr.mono (by decide)) uE.g jB.m jB.F.kp jB.b .nil (cJ hq) (ah (pvl 9 vk) (ah (pvl 11 wG) ax)) (hdb:=uE.d))) (bE (i:=16) jq.nd rfl (Or.inl Bb.l)) (aF (bz (i:=14) jq.nd rfl (Or.inl oU.l) (aZ yF (hr.mono (by decide)) mK.g kH.m kH.F.kp kH.b .nil (cJ hq) (ah (pvl 3 yn) (ah (bu b9 (pvl 8 mM) aH (fun _ _=>rfl)) (ah (bu b9 (pvl 8 mM) aH (fun _ _=>rfl)) (ah (dD (ah wO (ah (pvl 16 Bb) ax))) ax)))) (hdb:=mK.d))) (aN (eN (PW.pt (GM (sL (wJ (fG Ie iY.g T.isinstance Ed (ah (pvl 14 oU) (ah (Ud (v:=.ty "bool") qa.g T.bool Uh rfl (hn:=qa.n) (hd:=qa.d)) ax)) (hn:=iY.n) (hdb:=iY.d)))) (Kx (cn yw (pvl 14 oU) (zz (mP KI (bu b9 (pvl 9 vk) aH (fun _ _=>rfl)) aH (b7 _)) (BT (mP (PK hv) (pvl 16 Bb) (dN dM fU.g T.tuple iq (ah (pvl 9 vk) ax) (hn:=fU.n) (hdb:=fU.d)) (b7 _)))) (b7 _))))) (aN (b5 GD)) cU)))))))) (aN (b5 (mP (PK hv) (pvl 8 mM) (eE (ah (pvc 6 kq) (ah (pvc 7 nM) ax))) (b7 _))))))))))))))),?_⟩;rw [show L2.start ["script","many","roads","web","tolls","bound","laying","wish","handed","lacks","r","cell","steps","told","found","due","some"] [V.ref a]=[some (V.ref a),none,none,none,none,none,none,none,none,none,none,none,none,none,none,none,none] from rfl];refine ft fun N1 h1=>?_;walk_at "rd";refine ⟨a,ns,0,rfl,ha,by decide,by decide,fun d0 d00=>?_⟩;refine ⟨_,rfl,⟨by decide,by decide⟩,by decide,h1 _ _ (ft fun N2 h2=>?_)⟩;have m0:=bx (d0 / 2) (show (6:Int)≠0 by decide);have m5:=bC (d0 / 2) (show (0:Int)<6 by decide);obtain ⟨m,hm⟩:∃ m,m=1+d0 / 2 % 6:=⟨_,rfl⟩;rw [<- hm];have m1:1<=m:=by omega
   have m6:m<=6:=by omega
   clear hm m0 m5 d00;walk_at "rd";refine ⟨a,ns,0,rfl,ha,by decide,by decide,fun d1 d10=>⟨_,rfl,⟨by decide,by decide⟩,by decide,?_⟩⟩;refine ⟨a,ns,m,d1 / 600 % 4,rfl,ha,m1,by omega,bx _ (by decide),bC _ (by decide),fun l ps rs H1 nl s1 el ro g=>h2 _ _ (ft fun N3 h3=>?_)⟩;walk_at "rd";refine ⟨_,.inl (SqL.of el),fun lc nlc=>?_⟩;have s2:=Same.new (.lst (ps.map V.ref)) nlc;refine c0a T (c:=true) (SqL.of aq) (RoadsAt.same s2 ro) g fun x tw H2 hx htw s3 W=>?_;have s23:=s2.trans s3;have s13:=s1.trans s23;refine h3 _ _ (ft fun N4 h4=>?_);walk_at "rd";refine ⟨l,ps,m,rs,rfl,s23 _ _ el,RoadsAt.same s23 ro,g,fun d H3 nd s4 ta=>h4 _ _ (ft fun N5 h5=>?_)⟩;have W3:=W.same s4;have s14:=s13.trans s4;walk_at "rd";refine ⟨a,ns,rfl,Same.seq s14 ha,fun b H4 b1 s5=>h5 _ _ (ft fun N6 h6=>?_)⟩;have s15:=s14.trans s5;walk_at "rd";refine ⟨a,ns,m,b,rfl,Same.seq s15 ha,hn,m1,by omega,b1,fun lx xs H5 nx s6 ex xl x0=>h6 _ _ (ft fun N7 h7=>?_)⟩;have s16:=s15.trans s6;walk_at "rd";refine ⟨a,ns,m,b,rfl,Same.seq s16 ha,hn,m1,by omega,b1,fun ly ys H6 ny s7 ey yl y0=>h7 _ _ (ft fun N8 h8=>?_)⟩;have s17:=s16.trans s7;have ex6:=s7 _ _ ex;have nyx:ly≠lx:=fun z=>by rw [z,ex] at ny;cases ny
   have W5:=W3.same s5;have ta5:=ta.same s5;walk_at "rd";refine ⟨a,d,lx,ly,ns,m,rs,xs,ys,rfl,Same.seq s17 ha,ta5.same (s6.trans s7),g,ex6,xl,x0,ey,yl,fun zs H7 zl z0 oth hz=>h8 _ _ (ft fun N9 h9=>?_)⟩;have t7:Same H4 H7:=fun q o e=>oth q o (fun z=>by rw [z,nx] at e;cases e) ((s6.trans s7) q o e);have W7:=W5.same t7;have ta7:=ta5.same t7;have hy7:=oth ly _ nyx ey;have fx:=Nu zl z0;have fy:=Nu yl y0;have s07:Same H H7:=s15.trans t7;clear t7 oth ex6 ta5 W5 s17 s16 s15 s14 s13 W3 h1 h2 h3 h4 h5 h6 h7 h8 W ta s23 s2 s3 s4 s5 s6 s7 ex xl x0 xs ey nyx nx ny nd nlc hx htw el ro nl s1 d10 d1;walk_at "rd";refine ⟨_,.inl (SqL.of hz),fun lh nlh=>?_⟩;have s8:=Same.new (HO.lst (zs.map V.int)) nlh;have e8:upd H7 lh (HO.lst (zs.map V.int)) lh=some (.lst (zs.map V.int)):=aq;generalize upd H7 lh (HO.lst (zs.map V.int))=H8 at s8 e8 ⊢;refine ⟨_,.inl (SqL.of (s8 _ _ hy7)),fun lk nlk=>?_⟩;have u9:=Same.new (HO.lst (ys.map V.int)) nlk;have s9:=s8.trans u9;have e89:=u9 _ _ e8;have e9:upd H8 lk (HO.lst (ys.map V.int)) lk=some (.lst (ys.map V.int)):=aq;generalize upd H8 lk (HO.lst (ys.map V.int))=H9 at s9 e89 e9 ⊢;refine ⟨bn (by simp),fun lp nlp=>h9 _ _ (ft fun N10 h10=>?_)⟩;have u10:=Same.new (HO.lst [V.ref lh,V.ref lk]) nlp;have s10:=s9.trans u10;have eh:=u10 _ _ e89;have ek:=u10 _ _ e9;have ep:upd H9 lp (HO.lst [V.ref lh,V.ref lk]) lp=some (.lst [V.ref lh,V.ref lk]):=aq;generalize upd H9 lp (HO.lst [V.ref lh,V.ref lk])=H10 at s10 eh ek ep ⊢;have W10:=W7.same s10;have ta10:=ta7.same s10;have hz10:=s10 _ _ hz;have hy10:=s10 _ _ hy7;have s010:=s07.trans s10;clear s8 u9 s9 u10 e8 e89 e9 h9 W7 ta7 hz hy7 s07 s10 nlh nlk nlp;walk_at "rd";have exP:∀ r:Int,∃ pd:(Int->Int) × (Int->Nat),0<=r->r<m->Rooted m rs r pd.1 pd.2:=fun r=>by
     by_cases c:0<=r/\r<m
     . obtain ⟨par,dep,R⟩:=B4 g c.1 c.2;exact ⟨(par,dep),fun _ _=>R⟩
     . exact ⟨(fun x=>x,fun _=>0),fun z1 z2=>absurd ⟨z1,z2⟩ c⟩
   obtain ⟨PD,hPD⟩:∃ PD:Int->(Int->Int) × (Int->Nat),∀ r,0<=r->r<m->Rooted m rs r (PD r).1 (PD r).2:=⟨fun r=>Classical.choose (exP r),fun r=>Classical.choose_spec (exP r)⟩;refine ⟨by omega,by omega,fun pl npl=>?_⟩;refine vh (fun i zs' σ H'=>Same H10 H'/\H' pl=some (.lst zs')/\zs'=((sB m rs (fun r=>(PD r).1) (fun r=>(PD r).2) zs ys i).map fun x=>-x).map V.int/\∃ v,σ=[v,some (V.ref d),some (V.int m),some (V.ref lx),some (V.ref ly)]) ⟨Same.new _ npl,aq,rfl,_,rfl⟩ ?_ ?_
   . rintro i zs' σ H' M hM hi ⟨s',e',rfl,v,rfl⟩;rw [iE];have i0:(0:Int)<=(i:Int):=(by omega);have i1:(i:Int)<m:=(by omega);walk_at "rd";refine ⟨d,lx,ly,true,true,rs,zs,ys,m,(i:Int),rfl,ta10.same s',g,SqL.of (s' _ _ hz10),zl,SqL.of (s' _ _ hy10),yl,⟨i0,i1⟩,(PD i).1,(PD i).2,hPD i i0 i1,fun lg H'' ng s'' eg=>?_⟩;have gl:(sF m rs i (PD i).1 (PD i).2 (fun v=>(jg m zs ys).getD v.toNat 0) (hnd rs (PD i).1)).length=m.toNat:=(by unfold sF;rw [ak,eD]);refine ixL eg (atG i0 (by omega)) ⟨_,rfl,s'' _ _ e',gk (by rw [ak,ak,CW];omega),hM _ _ _ ⟨(s'.trans s'').put npl _,aq,?_,_,rfl⟩⟩;rw [QY i0 i1,Ni,aK,aK,Int.zero_sub]
     rfl
   . rintro zs' σ H11 ⟨s11,e11,rfl,v,rfl⟩;refine h10 _ _ (ft fun N11 h11=>?_);unfold W0;walk_at "rd";have W11:=W10.same s11;have ta11:=ta10.same s11;have hz11:=s11 _ _ hz10;have hy11:=s11 _ _ hy10;have eh11:=s11 _ _ eh;have ek11:=s11 _ _ ek;have ep11:=s11 _ _ ep;have s011:=s010.trans s11;clear W10 ta10 hz10 hy10 eh ek ep s010 s11 h10;refine ⟨a,ns,0,rfl,Same.seq s011 ha,by decide,by decide,fun d2 d20=>⟨_,rfl,⟨by decide,by decide⟩,by omega,bn (by simp),fun p1 n1=>?_⟩⟩;have x0:=bx (d2 / 7) (show m≠0 by omega);have x1:=bC (d2 / 7) (show 0<m by omega);obtain ⟨xn,hxn⟩:∃ xn:Nat,d2 / 7 % m=(xn:Int):=⟨(d2 / 7 % m).toNat,by omega⟩;rw [hxn] at x0 x1 ⊢;refine ⟨xn,aq,by omega,fun p2 n2=>?_⟩;obtain ⟨rl,hrl,rlr⟩:∃ rl:List Int,(if xn=0 then [V.int 0] else [V.int 0,V.int (xn:Int)])=rl.map V.int/\∀ r∈rl,0<=r/\r<m:=by
       by_cases c:xn=0
       . exact ⟨[0],by rw [am c];rfl,fun r hr=>by rw [aI.mp hr];omega⟩
       . refine ⟨[0,(xn:Int)],by rw [aj c];rfl,fun r hr=>?_⟩;rcases az.mp hr with z|z
         . rw [z];omega
         . rw [aI.mp z];omega
     rw [hrl];have u1:=Same.new (HO.lst [V.int 0,V.int (xn:Int)]) n1;have u2:=u1.trans (Same.new (HO.lst (rl.map V.int)) n2);have e12:upd (upd H11 p1 (HO.lst [V.int 0,V.int (xn:Int)])) p2 (HO.lst (rl.map V.int)) p2=some (.lst (rl.map V.int)):=aq;generalize upd (upd H11 p1 (HO.lst [V.int 0,V.int (xn:Int)])) p2 (HO.lst (rl.map V.int))=H12 at u2 e12 ⊢;have W12:=W11.same u2;have ta12:=ta11.same u2;have hz12:=u2 _ _ hz11;have hy12:=u2 _ _ hy11;have eh12:=u2 _ _ eh11;have ek12:=u2 _ _ ek11;have ep12:=u2 _ _ ep11;have s012:=s011.trans u2;have el12:=u2 _ _ e11;clear W11 ta11 hz11 hy11 eh11 ek11 ep11 s011 u1 u2 n1 n2 e11 hrl x0 x1 hxn d20;refine ⟨⟨_,SqL.of e12⟩,?_⟩;refine rg (K:=K) (xs:=rl.map V.int) (fun i σ H'=>Same H12 H'/\∃ v10 v11 v12 v13 v14 v15 v16,σ=[some (V.ref a),some (V.int m),some (V.ref l),some (V.ref x),some (V.ref d),some (V.int b),some (V.ref lx),some (V.ref ly),some (V.ref lp),some (V.ref pl),v10,v11,v12,v13,v14,v15,v16]) ⟨Same.refl _,_,_,_,_,_,_,_,rfl⟩ (fun i σ H' _ z=>SqL.of (z.1 _ _ e12)) ?_ ?_
     . rintro i y σ H13 M BB hBB hM hy ⟨s13,v10,v11,v12,v13,v14,v15,v16,rfl⟩;obtain ⟨r,hr',rfl⟩:=List.getElem?_map_some hy;have rr:=rlr r (bd hr');refine hBB _ _ (ft fun M1 k1=>?_);walk_at "rd";refine ⟨a,ns,r,rfl,Same.seq (s012.trans s13) ha,rr.1,by omega,fun d3 d30=>⟨_,rfl,⟨by decide,by decide⟩,k1 _ _ (ft fun M2 k2=>?_)⟩⟩;generalize d3 / 5=cell;clear k1 d30;walk_at "rd";refine ⟨d,lx,ly,true,true,rs,zs,ys,m,r,rfl,ta12.same s13,g,SqL.of (s13 _ _ hz12),zl,SqL.of (s13 _ _ hy12),yl,rr,fun l1 q1 ss1 H14 n14 s14 e14 L14 h48=>?_⟩;refine ⟨l1,d,q1,ss1,rs,cell,m,rfl,e14,L14,h48,ta12.same (s13.trans s14),g,fun l2 as H15 n15 s15 e15 as11 A15=>?_⟩;have t15:=s13.trans (s14.trans s15);clear n14 s14 e14 L14 h48 n15 s15;refine ⟨l2,rfl,⟨_,SqL.of e15⟩,?_⟩;refine rg (K:=K) (xs:=as.map V.ref) (fun i σ H'=>Same H15 H'/\∃ v12 v13 v14 v15 v16,σ=[some (V.ref a),some (V.int m),some (V.ref l),some (V.ref x),some (V.ref d),some (V.int b),some (V.ref lx),some (V.ref ly),some (V.ref lp),some (V.ref pl),some (V.int r),some (V.int cell),v12,v13,v14,v15,v16]) ⟨Same.refl _,_,_,_,_,_,rfl⟩ (fun i σ H' _ z=>SqL.of (z.1 _ _ e15)) ?_ ?_
       . rintro j y σ H16 MM BB2 hBB2 hMM hy2 ⟨s16,w12,w13,w14,w15,w16,rfl⟩;obtain ⟨ls,hls,rfl⟩:=List.getElem?_map_some hy2;obtain ⟨qs,ss,es,Ls,ls60⟩:=(A15.same s16) ls (bd hls);refine hBB2 _ _ (ft fun M3 k3=>?_);walk_at "rd";refine ⟨_,.inl (SqL.of es),fun p3 n3=>?_⟩;have u3:=Same.new (HO.lst (qs.map V.ref)) n3;have e3:upd H16 p3 (HO.lst (qs.map V.ref)) p3=some (.lst (qs.map V.ref)):=aq;generalize upd H16 p3 (HO.lst (qs.map V.ref))=H17 at u3 e3 ⊢;refine ⟨_,.inl ⟨SqL.of (u3 _ _ es),fun p4 n4=>⟨bn (by simp),fun p5 n5=>⟨by decide,?_⟩⟩⟩⟩;have u4:=Same.new (HO.tup (qs.map V.ref)) n4;have e4:upd H17 p4 (HO.tup (qs.map V.ref)) p4=some (.tup (qs.map V.ref)):=aq;have e34:=u4 _ _ e3;generalize upd H17 p4 (HO.tup (qs.map V.ref))=H18 at u4 e4 e34 n5 ⊢;have u5:=Same.new (HO.lst [V.ref p3,V.ref p4]) n5;have e5:upd H18 p5 (HO.lst [V.ref p3,V.ref p4]) p5=some (.lst [V.ref p3,V.ref p4]):=aq;have e35:=u5 _ _ e34;have e45:=u5 _ _ e4;have u35:=u3.trans (u4.trans u5);generalize upd H18 p5 (HO.lst [V.ref p3,V.ref p4])=H19 at u35 e5 e35 e45 ⊢;have sel:∃ (tl:Addr) (e:Bool),atI [V.ref p3,V.ref p4] (cell % 2)=some (V.ref tl)/\AtX e H19 tl (qs.map V.ref):=by
           rcases (show cell % 2=0\/cell % 2=1 by omega) with z|z <;> rw [z]
           . exact ⟨p3,true,rfl,e35⟩
           . exact ⟨p4,false,rfl,e45⟩
         obtain ⟨tl,te,hsel,htl⟩:=sel;refine ixL e5 hsel (k3 _ _ (ft fun M4 k4=>?_));have t19:=t15.trans (s16.trans u35);have s19:=s16.trans u35;have es19:=u35 _ _ es;have Ls19:=Ls.same u35;clear u3 u4 u5 u35 e3 e4 e34 e5 e35 e45 n3 n4 n5 hsel k3 es Ls s16;have sl60:ss.length<=1000:=(by omega);walk_at "rd";have ep19:=t19 _ _ ep12;refine ixL ep19 (v:=V.ref lh) rfl (ixL ep19 (v:=V.ref lk) rfl ⟨bn (by simp),fun p6 n6=>?_⟩);have u6:=Same.new (HO.tup [V.str (Str.ofString "steps"),V.ref tl]) n6;have e6:upd H19 p6 (HO.tup [V.str (Str.ofString "steps"),V.ref tl]) p6=some (.tup [.str "steps",.ref tl]):=aq;generalize upd H19 p6 (HO.tup [V.str (Str.ofString "steps"),V.ref tl])=H20 at u6 e6 ⊢;have t20:=t19.trans u6;have s20:=s19.trans u6;have es20:=u6 _ _ es19;have Ls20:=Ls19.same u6;have htl20:AtX te H20 tl (qs.map V.ref):=u6 _ _ htl;refine ⟨x,lh,lk,p6,tl,tw,true,true,te,m,ps,rs,zs,ys,"steps",rfl,W12.same t20,t20 _ _ eh12,by omega,t20 _ _ ek12,by omega,e6,.inl ⟨rfl,qs,ss,htl20,Ls20,sl60,fun _ _ bv H21 hbv s21=>k4 _ _ (ft fun M5 k5=>?_)⟩,(fun z=>by rw [fx] at z;cases z),fun _ z=>by rw [fy] at z;cases z⟩;have t21:=t20.trans s21;have ss21:=s20.trans s21;have es21:=s21 _ _ es20;have Ls21:=Ls20.same s21;have htl21:AtX te H21 tl (qs.map V.ref):=s21 _ _ htl20;clear k4 u6 e6 n6 s20 t20 t19 s19 es19 es20 Ls19 Ls20 htl htl20 ep19;have due:∀ (dv:Bool) (H22:Hp),Same H21 H22->dv=bv->M5 [some (V.ref a),some (V.int m),some (V.ref l),some (V.ref x),some (V.ref d),some (V.int b),some (V.ref lx),some (V.ref ly),some (V.ref lp),some (V.ref pl),some (V.int r),some (V.int cell),some (V.ref ls),some (V.ref tl),some (V.bl bv),some (V.bl dv),w16] H22:=by
           rintro dv H22 s22 rfl;refine k5 _ _ (ft fun M6 k6=>?_);have t22:=t21.trans s22;refine GS fun NA NB kA kB=>?_;walk_at "rd";refine isB dv ⟨_,rfl,?_⟩;rw [aj (by decide),aj (fun z=>z trivial)];have htl22:AtX te H22 tl (qs.map V.ref):=s22 _ _ htl21;refine ⟨qs.map V.ref,?_,fun p7 n7=>?_⟩
           . cases te with
             | true=>exact .inl (SqL.of htl22)
             | false=>exact .inr (SqT.of htl22)
           have u7:=Same.new (HO.lst (qs.map V.ref)) n7;have s27:=s22.trans u7;have Ls27:=Ls21.same s27;refine ⟨_,_,.lst (SqL.of aq) (Jm Ls27),.lst (SqL.of (s27 _ _ es21)) (Jm Ls27),?_,?_⟩
           . have:=Nk ss;simp only [PyData.depth];omega
           have ee:PyData.eqv (.list (ss.map dSt)) (.list (ss.map dSt))=true:=by
             simp only [PyData.eqv];exact TM ss
           rw [ee];refine ⟨_,rfl,?_⟩;rw [aj (by decide)];refine kB _ _ ?_;walk_at "rd";refine k6 _ _ ?_;generalize upd H22 p7 (HO.lst (qs.map V.ref))=H23 at s27 Ls27;have t23:=t21.trans s27;have htl23:AtX te H23 tl (qs.map V.ref):=s27 _ _ htl21;refine GS fun NA' NB' kA' kB'=>?_;walk_at "rd";refine ⟨_,.inl ⟨SqL.of (t23 _ _ hz12),fun p8 n8=>?_⟩⟩;have u8:=Same.new (HO.tup (zs.map V.int)) n8;have e8:upd H23 p8 (HO.tup (zs.map V.int)) p8=some (.tup (zs.map V.int)):=aq;generalize upd H23 p8 (HO.tup (zs.map V.int))=H24 at u8 e8 ⊢;refine ⟨_,.inl ⟨SqL.of (u8 _ _ (t23 _ _ hy12)),fun p9 n9=>?_⟩⟩;have v9:=Same.new (HO.tup (ys.map V.int)) n9;have u9:=u8.trans v9;have e89:=v9 _ _ e8;have e9:upd H24 p9 (HO.tup (ys.map V.int)) p9=some (.tup (ys.map V.int)):=aq;generalize upd H24 p9 (HO.tup (ys.map V.int))=H25 at u9 e89 e9 ⊢;refine ⟨bn (by simp),fun pA nA=>?_⟩;have vA:=Same.new (HO.tup [V.str (Str.ofString "steps"),V.ref tl]) nA;have uA:=u9.trans vA;have e8A:=vA _ _ e89;have e9A:=vA _ _ e9;have eA:upd H25 pA (HO.tup [V.str (Str.ofString "steps"),V.ref tl]) pA=some (.tup [.str "steps",.ref tl]):=aq;generalize upd H25 pA (HO.tup [V.str (Str.ofString "steps"),V.ref tl])=H26 at uA e8A e9A eA ⊢;have t26:=t23.trans uA;refine ⟨x,p8,p9,pA,tl,tw,false,false,te,m,ps,rs,zs,ys,"steps",rfl,W12.same t26,e8A,by omega,e9A,by omega,eA,.inl ⟨rfl,qs,ss,uA _ _ htl23,Ls27.same uA,sl60,fun _ _ bv' H27 hbv' s27'=>?_⟩,(fun z=>by rw [fx] at z;cases z),fun _ z=>by rw [fy] at z;cases z⟩;have eb:bv'=dv:=(by rw [da,hbv',hbv]);rw [eb];refine ⟨rfl,?_⟩;rw [aj (fun z=>z rfl)];refine kB' _ _ ?_;walk_at "rd";exact hMM _ _ ⟨ss21.trans (s27.trans (uA.trans s27')),_,_,_,_,_,rfl⟩
         walk_at "rd";refine ⟨d,lx,ls,true,m,rs,zs,qs,ss,rfl,ta12.same t21,g,t21 _ _ hz12,zl,es21,Ls21,fun can l3 H22 n22 s22 e22=>?_,fun ncan H22 s22=>?_⟩
         . refine ⟨ly,ys,V.ref l3,rfl,s22 _ _ (t21 _ _ hy12),by omega,.inr ⟨l3,_,rfl,e22,?_,fun H23 s23=>due _ H23 (s22.trans s23) ?_⟩⟩
           . rw [DM];omega
           . rw [da,hbv];exact ⟨fun z=>⟨can,z⟩,fun z=>z.2⟩
         . refine ⟨ly,ys,V.non,rfl,s22 _ _ (t21 _ _ hy12),by omega,.inl ⟨rfl,due _ H22 s22 ?_⟩⟩;exact (nF.mpr fun z=>ncan (hbv.mp z).1).symm
       . rintro BB2 σ H16 hBB2 ⟨s16,w12,w13,w14,w15,w16,rfl⟩;refine hBB2 _ _ (k2 _ _ ?_);walk_at "rd";have t16:=t15.trans s16;have sl6:((sB m rs (fun r=>(PD r).1) (fun r=>(PD r).2) zs ys m.toNat).map fun x=>-x).length=m.toNat:=(by rw [ak,CW]);refine ⟨pl,_,cell,rfl,t16 _ _ el12,by omega,by omega,fun l3 bs H17 n17 s17 e17 b6 A17=>?_⟩;have t17:=t16.trans s17;refine ⟨l3,rfl,⟨_,SqL.of e17⟩,?_⟩;refine rg (K:=K) (xs:=bs.map V.ref) (fun i σ H'=>Same H17 H'/\∃ v12 v13 v14 v15 v16,σ=[some (V.ref a),some (V.int m),some (V.ref l),some (V.ref x),some (V.ref d),some (V.int b),some (V.ref lx),some (V.ref ly),some (V.ref lp),some (V.ref pl),some (V.int r),some (V.int cell),v12,v13,v14,v15,v16]) ⟨Same.refl _,_,_,_,_,_,rfl⟩ (fun i σ H' _ z=>SqL.of (z.1 _ _ e17)) ?_ ?_
         . rintro j y σ H18 MM BB3 hBB3 hMM hy2 ⟨s18,w12',w13',w14',w15',w16',rfl⟩;obtain ⟨sm,hsm,rfl⟩:=List.getElem?_map_some hy2;obtain ⟨ws,esm,ws60⟩:=(A17.same s18) sm (bd hsm);refine hBB3 _ _ (ft fun M3 k3=>?_);have t18:=t17.trans s18;walk_at "rd";have ep18:=t18 _ _ ep12;refine ixL ep18 (v:=V.ref lh) rfl (ixL ep18 (v:=V.ref lk) rfl ⟨bn (by simp),fun p6 n6=>?_⟩);have u6:=Same.new (HO.tup [V.str (Str.ofString "lack"),V.ref sm]) n6;have e6:upd H18 p6 (HO.tup [V.str (Str.ofString "lack"),V.ref sm]) p6=some (.tup [.str "lack",.ref sm]):=aq;have esm6:=u6 _ _ esm;generalize upd H18 p6 (HO.tup [V.str (Str.ofString "lack"),V.ref sm])=H19 at u6 e6 esm6 ⊢;have t19:=t18.trans u6;refine ⟨x,lh,lk,p6,sm,tw,true,true,false,m,ps,rs,zs,ys,"lack",rfl,W12.same t19,t19 _ _ eh12,by omega,t19 _ _ ek12,by omega,e6,.inr ⟨rfl,ws,esm6,fun _ _=>⟨fun r=>(PD r).1,fun r=>(PD r).2,hPD,fun bv H20 hbv s20=>k3 _ _ ?_⟩⟩,(fun z=>by rw [fx] at z;cases z),fun _ z=>by rw [fy] at z;cases z⟩;have t20:=t19.trans s20;refine GS fun NA NB kA kB=>?_;walk_at "rd";refine isB bv ⟨_,rfl,?_⟩;rw [aj (by decide)];have el20:=t20 _ _ el12;have s00:((sB m rs (fun r=>(PD r).1) (fun r=>(PD r).2) zs ys m.toNat).map fun x=>-x).getD 0 0=-(stg m rs 0 (PD 0).1 (PD 0).2 ys zs 0):=by
             rw [lN,aU];have:=aia (m:=m) (rs:=rs) (PAR:=fun r=>(PD r).1) (DEP:=fun r=>(PD r).2) (xs:=zs) (ys:=ys) (i:=m.toNat) (j:=0) (by omega);rw [lN] at this;have hl:0<(sB m rs (fun r=>(PD r).1) (fun r=>(PD r).2) zs ys m.toNat).length:=(by rw [CW];omega);rw [aD hl] at this ⊢;show -(_)=-(_);rw [show (sB m rs (fun r=>(PD r).1) (fun r=>(PD r).2) zs ys m.toNat)[0]=_ from this]
             rfl
           generalize hlk:(sB m rs (fun r=>(PD r).1) (fun r=>(PD r).2) zs ys m.toNat).map (fun x=>-x)=lk' at el20 s00 hbv sl6;have fin:∀ H21,Same H20 H21->NB [some (V.ref a),some (V.int m),some (V.ref l),some (V.ref x),some (V.ref d),some (V.int b),some (V.ref lx),some (V.ref ly),some (V.ref lp),some (V.ref pl),some (V.int r),some (V.int cell),w12',w13',some (V.bl bv),w15',some (V.ref sm)] H21:=fun H21 s21=>by
             refine kB _ _ ?_;walk_at "rd";exact hMM _ _ ⟨s18.trans (u6.trans (s20.trans s21)),_,_,_,_,_,rfl⟩
           refine ixL el20 (atG (by decide) (by omega)) ⟨_,rfl,?_⟩;by_cases c0:0<lk'.getD (0:Int).toNat 0
           . rw [am c0];have ng:¬ 0<=stg m rs 0 (PD 0).1 (PD 0).2 ys zs 0:=by
               have:lk'.getD (0:Int).toNat 0=lk'.getD 0 0:=rfl;omega
             refine ⟨_,.inl ⟨SqL.of el20,fun p7 n7=>?_⟩⟩;have u7:=Same.new (HO.tup (lk'.map V.int)) n7;refine ⟨_,_,Dq (u7 _ _ (s20 _ _ esm6)),Dq (xs:=lk') aq,?_,?_⟩
             . have:=pR ws;simp only [Bx,PyData.depth];omega
             rw [exa];refine ⟨rfl,?_⟩;have eb:bv=decide (ws=lk'):=by
               rw [da,hbv,ck];exact ⟨fun z=>z.2,fun z=>⟨ng,z⟩⟩
             rw [aj (by rw [eb];exact fun z=>z rfl)];exact fin _ u7
           . rw [aj c0];have eb:bv=false:=nF.mpr fun z=>by
               have h1:¬ 0<=stg m rs 0 (PD 0).1 (PD 0).2 ys zs 0:=(hbv.mp z).1;have:lk'.getD (0:Int).toNat 0=lk'.getD 0 0:=rfl;omega
             rw [aj (fun z=>z eb)];exact fin _ (Same.refl _)
         . rintro BB3 σ H18 hBB3 ⟨s18,w12',w13',w14',w15',w16',rfl⟩;refine hBB3 _ _ ?_;exact hM _ _ ⟨t17.trans s18,_,_,_,_,_,_,_,rfl⟩
     . rintro BB σ H13 hBB ⟨s13,v10,v11,v12,v13,v14,v15,v16,rfl⟩;refine hBB _ _ (h11 _ _ ?_);walk_at "rd";refine ⟨bn (by simp),fun pe ne=>?_⟩;have se:=Same.new (HO.lst [V.ref lx,V.ref ly]) ne;have t13:=s13.trans se;refine ⟨_,_,.lst (SqL.of (t13 _ _ ep12)) (.cons (AF (t13 _ _ eh12)) (.cons (AF (t13 _ _ ek12)) .nil)),.lst (SqL.of aq) (.cons (AF (t13 _ _ hz12)) (.cons (AF (t13 _ _ hy12)) .nil)),?_,?_⟩
       . have d1:=pR zs;have d2:=pR ys;simp only [PyData.depth,PyData.depthAll];omega
       . have ee:PyData.eqv (.list [.list (zs.map PyData.int),.list (ys.map PyData.int)]) (.list [.list (zs.map PyData.int),.list (ys.map PyData.int)])=true:=by
           simp [PyData.eqv,PyData.eqvAll,HF]
         rw [ee];exact k _
end
theorem e4a:cr CX0:=fun _ _ _ _ _ h=>h
theorem all_mk {l:PySem.W.OpenLaw} {w:World} {K:PySem.W.Frag} {h:Heap} {mg:Str->Option Value} {fa:Addr} {dw:Addr} {nN:Addr} {jZ:Addr} {l9:Addr} {ia:Addr} {j8:Addr} {gW:Addr} {uV:Addr} {xc_TollError:Value} {xd_TollError:Option Addr} {xk_TollError:ClassData} {xs_TollError:Array (Option Value)} {xc_BadWeb:Value} {xd_BadWeb:Option Addr} {xk_BadWeb:ClassData} {xs_BadWeb:Array (Option Value)} {xc_NoPlace:Value} {xd_NoPlace:Option Addr} {xk_NoPlace:ClassData} {xs_NoPlace:Array (Option Value)} {qn_NoPlace qq_NoPlace:Str} {qN_NoPlace:Addr} {qb_NoPlace qm_NoPlace:List Value} {qh_NoPlace:Bool} {qs_NoPlace:List Str} {qu_NoPlace:List Value} {qa_NoPlace:Bool} {qc_NoPlace:Option Bool} {qd_NoPlace:Option Addr} {q0_NoPlace q1_NoPlace q2_NoPlace q3_NoPlace q5_NoPlace:Option Value} {xc_NoRoad:Value} {xd_NoRoad:Option Addr} {xk_NoRoad:ClassData} {xs_NoRoad:Array (Option Value)} {qn_NoRoad qq_NoRoad:Str} {qN_NoRoad:Addr} {qb_NoRoad qm_NoRoad:List Value} {qh_NoRoad:Bool} {qs_NoRoad:List Str} {qu_NoRoad:List Value} {qa_NoRoad:Bool} {qc_NoRoad:Option Bool} {qd_NoRoad:Option Addr} {q0_NoRoad q1_NoRoad q2_NoRoad q3_NoRoad q5_NoRoad:Option Value} {xc_BadLaying:Value} {xd_BadLaying:Option Addr} {xk_BadLaying:ClassData} {xs_BadLaying:Array (Option Value)} {qn_BadLaying qq_BadLaying:Str} {qN_BadLaying:Addr} {qb_BadLaying qm_BadLaying:List Value} {qh_BadLaying:Bool} {qs_BadLaying:List Str} {qu_BadLaying:List Value} {qa_BadLaying:Bool} {qc_BadLaying:Option Bool} {qd_BadLaying:Option Addr} {q0_BadLaying q1_BadLaying q2_BadLaying q3_BadLaying q5_BadLaying:Option Value} {xc_BadWish:Value} {xd_BadWish:Option Addr} {xk_BadWish:ClassData} {xs_BadWish:Array (Option Value)} {qn_BadWish qq_BadWish:Str} {qN_BadWish:Addr} {qb_BadWish qm_BadWish:List Value} {qh_BadWish:Bool} {qs_BadWish:List Str} {qu_BadWish:List Value} {qa_BadWish:Bool} {qc_BadWish:Option Bool} {qd_BadWish:Option Addr} {q0_BadWish q1_BadWish q2_BadWish q3_BadWish q5_BadWish:Option Value} {xc_BadStep:Value} {xd_BadStep:Option Addr} {xk_BadStep:ClassData} {xs_BadStep:Array (Option Value)} {qn_BadStep qq_BadStep:Str} {qN_BadStep:Addr} {qb_BadStep qm_BadStep:List Value} {qh_BadStep:Bool} {qs_BadStep:List Str} {qu_BadStep:List Value} {qa_BadStep:Bool} {qc_BadStep:Option Bool} {qd_BadStep:Option Addr} {q0_BadStep q1_BadStep q2_BadStep q3_BadStep q5_BadStep:Option Value} {jC:Addr} {od_check_counts Li:Option Addr} {KW:Array (Option Value)} {oc_check_counts Kv K7 KL AD K6:Value} {gN:Addr} {od_is_place S7:Option Addr} {S6:Array (Option Value)} {oc_is_place R4 SX Sh HP RO:Value} {lX:Addr} {od_check_ends OM:Option Addr} {OJ:Array (Option Value)} {oc_check_ends NO Oc OH Eg OA:Value} {hW:Addr} {od_other_ends Oh:Option Addr} {Ol:Array (Option Value)} {oc_other_ends Oa Oe OF Ej NQ:Value} {jF:Addr} {od_check_joined KB:Option Addr} {Ko:Array (Option Value)} {oc_check_joined KC Kg KJ Am KA:Value} {kC:Addr} {od_check_tolls Mf:Option Addr} {LN:Array (Option Value)} {oc_check_tolls Lm LR Mx Co Mr:Value} {f_Web___init__:Addr} {od_Web___init__ Kp:Option Addr} {Lj:Array (Option Value)} {oc_Web___init__ KD Ky KP Af J5:Value} {nJ:Addr} {od_law_tolls Rs:Option Addr} {PF:Array (Option Value)} {oc_law_tolls Ra Q3 Rv Gs Qx:Value} {cL:Addr} {od_law_drawn O9:Option Addr} {RE:Array (Option Value)} {oc_law_drawn Ql Q9 PX EW Qw:Value} {nQ:Addr} {od_law_bound Rm:Option Addr} {Rt:Array (Option Value)} {oc_law_bound Rh QR P4 F2 PJ:Value} {md:Addr} {od_law_covers Od:Option Addr} {OE:Array (Option Value)} {oc_law_covers Ov NT Oz Ep OB:Value} {py:Addr} {od_law_done RV:Option Addr} {R7:Array (Option Value)} {oc_law_done SG Tf RZ Ia Sf:Value} {jR:Addr} {od_law_down Su:Option Addr} {RL:Array (Option Value)} {oc_law_down RY SI Te Ik Sb:Value} {dH:Addr} {od_law_standings Ix:Option Addr} {JD:Array (Option Value)} {oc_law_standings Jj JE IE yH Ju:Value} {pH:Addr} {od_law_edge Sm:Option Addr} {SN:Array (Option Value)} {oc_law_edge RS Td SU HZ Se:Value} {iu:Addr} {od_law_lacks_else Ho:Option Addr} {HA:Array (Option Value)} {oc_law_lacks_else Hq Hl Hk xL GY:Value} {mf:Addr} {od_law_laying Oo:Option Addr} {OG:Array (Option Value)} {oc_law_laying Oq Ot NM Ea NL:Value} {pI:Addr} {od_law_toll SC:Option Addr} {Sc:Array (Option Value)} {oc_law_toll SA SL RT HR Sz:Value} {nu:Addr} {od_law_roads Pa:Option Addr} {Qv:Array (Option Value)} {oc_law_roads Pc P1 O7 FX QD:Value} {nV:Addr} {od_law_steps RD:Option Addr} {QH:Array (Option Value)} {oc_law_steps RH QN Pm Gv Qc:Value} {gS:Addr} {od_law_step_spoilt FO:Option Addr} {F6:Array (Option Value)} {oc_law_step_spoilt Fi Fq FJ wI FH:Value} {iy:Addr} {od_law_steps_else GZ:Option Addr} {Ha:Array (Option Value)} {oc_law_steps_else GX Hs Hi xV Hx:Value} {pw:Addr} {od_law_wish SJ:Option Addr} {Tc:Array (Option Value)} {oc_law_wish R3 SO Sk HN S3:Value} {eS:Addr} {od_check_place Lw:Option Addr} {LP:Array (Option Value)} {oc_check_place Ll Mw Lr Cn LI:Value} {sP:Addr} {od_toll cla:Option Addr} {cNa:Array (Option Value)} {oc_toll cJa cxa cta Ua cPa:Value} {nW:Addr} {od_handed_on PV:Option Addr} {Px:Array (Option Value)} {oc_handed_on P9 Pq Qy FT Qt:Value} {hJ:Addr} {od_neighbours Ob:Option Addr} {NS:Array (Option Value)} {oc_neighbours NR Og Oj Er OO:Value} {sW:Addr} {od_kids cQa:Option Addr} {bVa:Array (Option Value)} {oc_kids cua cva cRa Tz cka:Value} {qj:Addr} {od_ahead bqa:Option Addr} {Yb:Array (Option Value)} {oc_ahead Yh ZX Ze OW ZV:Value} {y6:Addr} {od_down cra:Option Addr} {bYa:Array (Option Value)} {oc_down b2a b0a cca Uk cma:Value} {tM:Addr} {od_inward Wg:Option Addr} {Wk:Array (Option Value)} {oc_inward V9 Xg V4 Nq WW:Value} {iK:Addr} {od_is_filled RB:Option Addr} {Qb:Array (Option Value)} {oc_is_filled Ru QF QW F4 Q1:Value} {iI:Addr} {od_laying_of Rr:Option Addr} {RG:Array (Option Value)} {oc_laying_of QV Q5 O8 FQ PB:Value} {rj:Addr} {od_wish_of VS:Option Addr} {Vg:Array (Option Value)} {oc_wish_of Vs UU UP KF UW:Value} {nI:Addr} {od_standings P6:Option Addr} {OY:Array (Option Value)} {oc_standings Qr RA QK FE Rk:Value} {jP:Addr} {od_standing Sd:Option Addr} {Sn:Array (Option Value)} {oc_standing SQ Sw SR HK Sr:Value} {tZ:Addr} {od_is_met Xv:Option Addr} {XH:Array (Option Value)} {oc_is_met Xh Wj V2 MX Wa:Value} {pK:Addr} {od_lacks_of Sq:Option Addr} {SZ:Array (Option Value)} {oc_lacks_of SM R6 R8 HU S8:Value} {tT:Addr} {od_covers WR:Option Addr} {Wl:Array (Option Value)} {oc_covers XN Wf X5 MR XB:Value} {f_BadStep___init__:Addr} {od_BadStep___init__ EC:Option Addr} {Ey:Array (Option Value)} {oc_BadStep___init__ EJ EI EG vG Ew:Value} {qu:Addr} {od_taken a7a:Option Addr} {aka:Array (Option Value)} {oc_taken aNa ZJ aJa Pf Zd:Value} {tY:Addr} {od_behind XA:Option Addr} {Xo:Array (Option Value)} {oc_behind XD WE Wm Nm X4:Value} {rm:Addr} {od_is_step Vn:Option Addr} {Vt:Array (Option Value)} {oc_is_step VT Uu VA J6 UI:Value} {kJ:Addr} {od_can_be_done Mo:Option Addr} {LD:Array (Option Value)} {oc_can_be_done LO Me Lq Cq Mv:Value} {q9:Addr} {od_layings Ur:Option Addr} {UL:Array (Option Value)} {oc_layings VH UJ Vv Lh VO:Value} {ue:Addr} {od_walked XW:Option Addr} {WM:Array (Option Value)} {oc_walked XT VX Wy MT Ww:Value} {rh:Addr} {od_lead_to Vc:Option Addr} {UR:Array (Option Value)} {oc_lead_to UC Vd Vr Ke U7:Value} {tS:Addr} {od_judged Xn:Option Addr} {Xr:Array (Option Value)} {oc_judged WQ Wo Wv MQ Xa:Value} {Vu:Addr} {od_law XU:Option Addr} {dVa:Array (Option Value)} {oc_law XF Wx Wr QP Xl:Value} {t_MOST_PLACES:Tok} {t_LEAST_TOLL:Tok} {t_MOST_TOLL:Tok} (X:K.In h) (G:h.Ns mainGlobals mg) (hfa:mg "law"=some (.ref fa))
   (yE:PySem.W.nsIn K mainGlobals "TollError"=some (some (.ref dw)))
   (Gm:PySem.W.nsIn K mainGlobals "BadWeb"=some (some (.ref nN)))
   (D5:PySem.W.nsIn K mainGlobals "NoPlace"=some (some (.ref jZ)))
   (Gh:PySem.W.nsIn K mainGlobals "NoRoad"=some (some (.ref l9)))
   (zO:PySem.W.nsIn K mainGlobals "BadLaying"=some (some (.ref ia)))
   (DJ:PySem.W.nsIn K mainGlobals "BadWish"=some (some (.ref j8)))
   (DC:PySem.W.nsIn K mainGlobals "BadStep"=some (some (.ref gW)))
   (O5:PySem.W.nsIn K mainGlobals "Web"=some (some (.ref uV)))
   (zy:K.lookup dw=some ⟨xc_TollError,xd_TollError,.cls xk_TollError,xs_TollError⟩)
   (zR:xk_TollError.mro=.ref dw::bmV)
   (zv:PySem.W.typeIn K (.ref dw)=some (.type "type"))
   (yO:PySem.W.findIn K (.ref dw) "__getattribute__"=some (some (.builtin "BaseException.__getattribute__")))
   (y7:PySem.W.findIn K (.ref dw) "__getattr__"=some none)
   (zJ:PySem.W.findIn K (.ref dw) "__class__"=some (some (.builtin "object.__class__")))
   (zc:PySem.W.hasDictIn K dw=true)
   (E4:K.lookup nN=some ⟨xc_BadWeb,xd_BadWeb,.cls xk_BadWeb,xs_BadWeb⟩)
   (Fn:xk_BadWeb.mro=.ref nN::.ref dw::bmV)
   (Gq:PySem.W.typeIn K (.ref nN)=some (.type "type"))
   (FM:PySem.W.findIn K (.ref nN) "__getattribute__"=some (some (.builtin "BaseException.__getattribute__")))
   (Fv:PySem.W.findIn K (.ref nN) "__getattr__"=some none)
   (Gg:PySem.W.findIn K (.ref nN) "__class__"=some (some (.builtin "object.__class__")))
   (Fs:PySem.W.hasDictIn K nN=true)
   (yd:K.lookup jZ=some ⟨xc_NoPlace,xd_NoPlace,.cls xk_NoPlace,xs_NoPlace⟩)
   (CS:xk_NoPlace.mro=.ref jZ::.ref dw::bmV)
   (CU:PySem.W.typeIn K (.ref jZ)=some (.type "type"))
   (DF:PySem.W.findIn K (.ref jZ) "__getattribute__"=some (some (.builtin "BaseException.__getattribute__")))
   (Dm:PySem.W.findIn K (.ref jZ) "__getattr__"=some none)
   (CF:PySem.W.findIn K (.ref jZ) "__class__"=some (some (.builtin "object.__class__")))
   (DZ:PySem.W.hasDictIn K jZ=true)
   (DG:(⟨xc_NoPlace,xd_NoPlace,.cls xk_NoPlace,xs_NoPlace⟩:Obj)=excClassObj qn_NoPlace qq_NoPlace jZ qN_NoPlace qb_NoPlace qm_NoPlace qh_NoPlace qs_NoPlace qu_NoPlace qa_NoPlace qc_NoPlace qd_NoPlace q0_NoPlace q1_NoPlace q2_NoPlace q3_NoPlace q5_NoPlace "ValueError.__new__")
   (CH:PySem.W.nsOkIn K qN_NoPlace=true)
   (C4:PySem.W.nsIn K qN_NoPlace "__init__"=some none)
   (C7:PySem.W.tailIn K bmV qm_NoPlace=true)
   (An:K.lookup l9=some ⟨xc_NoRoad,xd_NoRoad,.cls xk_NoRoad,xs_NoRoad⟩)
   (Gk:xk_NoRoad.mro=.ref l9::.ref dw::bmV)
   (FF:PySem.W.typeIn K (.ref l9)=some (.type "type"))
   (FI:PySem.W.findIn K (.ref l9) "__getattribute__"=some (some (.builtin "BaseException.__getattribute__")))
   (Gp:PySem.W.findIn K (.ref l9) "__getattr__"=some none)
   (F9:PySem.W.findIn K (.ref l9) "__class__"=some (some (.builtin "object.__class__")))
   (F8:PySem.W.hasDictIn K l9=true)
   (Gf:(⟨xc_NoRoad,xd_NoRoad,.cls xk_NoRoad,xs_NoRoad⟩:Obj)=excClassObj qn_NoRoad qq_NoRoad l9 qN_NoRoad qb_NoRoad qm_NoRoad qh_NoRoad qs_NoRoad qu_NoRoad qa_NoRoad qc_NoRoad qd_NoRoad q0_NoRoad q1_NoRoad q2_NoRoad q3_NoRoad q5_NoRoad "ValueError.__new__")
   (Gj:PySem.W.nsOkIn K qN_NoRoad=true)
   (Fz:PySem.W.nsIn K qN_NoRoad "__init__"=some none)
   (Fl:PySem.W.tailIn K bmV qm_NoRoad=true)
   (ve:K.lookup ia=some ⟨xc_BadLaying,xd_BadLaying,.cls xk_BadLaying,xs_BadLaying⟩)
   (zN:xk_BadLaying.mro=.ref ia::.ref dw::bmV)
   (yS:PySem.W.typeIn K (.ref ia)=some (.type "type"))
   (yR:PySem.W.findIn K (.ref ia) "__getattribute__"=some (some (.builtin "BaseException.__getattribute__")))
   (zt:PySem.W.findIn K (.ref ia) "__getattr__"=some none)
   (zi:PySem.W.findIn K (.ref ia) "__class__"=some (some (.builtin "object.__class__")))
   (zb:PySem.W.hasDictIn K ia=true)
   (yL:(⟨xc_BadLaying,xd_BadLaying,.cls xk_BadLaying,xs_BadLaying⟩:Obj)=excClassObj qn_BadLaying qq_BadLaying ia qN_BadLaying qb_BadLaying qm_BadLaying qh_BadLaying qs_BadLaying qu_BadLaying qa_BadLaying qc_BadLaying qd_BadLaying q0_BadLaying q1_BadLaying q2_BadLaying q3_BadLaying q5_BadLaying "ValueError.__new__")
   (ze:PySem.W.nsOkIn K qN_BadLaying=true)
   (yK:PySem.W.nsIn K qN_BadLaying "__init__"=some none)
   (zu:PySem.W.tailIn K bmV qm_BadLaying=true)
   (yq:K.lookup j8=some ⟨xc_BadWish,xd_BadWish,.cls xk_BadWish,xs_BadWish⟩)
   (Dw:xk_BadWish.mro=.ref j8::.ref dw::bmV)
   (D3:PySem.W.typeIn K (.ref j8)=some (.type "type"))
   (CY:PySem.W.findIn K (.ref j8) "__getattribute__"=some (some (.builtin "BaseException.__getattribute__")))
   (DV:PySem.W.findIn K (.ref j8) "__getattr__"=some none)
   (D0:PySem.W.findIn K (.ref j8) "__class__"=some (some (.builtin "object.__class__")))
   (CZ:PySem.W.hasDictIn K j8=true)
   (Cz:(⟨xc_BadWish,xd_BadWish,.cls xk_BadWish,xs_BadWish⟩:Obj)=excClassObj qn_BadWish qq_BadWish j8 qN_BadWish qb_BadWish qm_BadWish qh_BadWish qs_BadWish qu_BadWish qa_BadWish qc_BadWish qd_BadWish q0_BadWish q1_BadWish q2_BadWish q3_BadWish q5_BadWish "ValueError.__new__")
   (Dc:PySem.W.nsOkIn K qN_BadWish=true)
   (DE:PySem.W.nsIn K qN_BadWish "__init__"=some none)
   (CO:PySem.W.tailIn K bmV qm_BadWish=true)
   (uR:K.lookup gW=some ⟨xc_BadStep,xd_BadStep,.cls xk_BadStep,xs_BadStep⟩)
   (yi:xk_BadStep.mro=.ref gW::.ref dw::bmV)
   (C2:PySem.W.typeIn K (.ref gW)=some (.type "type"))
   (DL:PySem.W.findIn K (.ref gW) "__getattribute__"=some (some (.builtin "BaseException.__getattribute__")))
   (Dt:PySem.W.findIn K (.ref gW) "__getattr__"=some none)
   (DS:PySem.W.findIn K (.ref gW) "__class__"=some (some (.builtin "object.__class__")))
   (ye:PySem.W.hasDictIn K gW=true)
   (CD:(⟨xc_BadStep,xd_BadStep,.cls xk_BadStep,xs_BadStep⟩:Obj)=excClassObj qn_BadStep qq_BadStep gW qN_BadStep qb_BadStep qm_BadStep qh_BadStep qs_BadStep qu_BadStep qa_BadStep qc_BadStep qd_BadStep q0_BadStep q1_BadStep q2_BadStep q3_BadStep q5_BadStep "ValueError.__new__")
   (C8:PySem.W.nsOkIn K qN_BadStep=true)
   (CC:PySem.W.nsIn K qN_BadStep "__init__"=some (some (.ref f_BadStep___init__)))
   (DT:PySem.W.tailIn K bmV qm_BadStep=true)
   (yM:PySem.W.specialIn K (.ref dw) "__getattribute__"=some (some (.builtin "type.__getattribute__")))
   (yX:PySem.W.readsIn K dw (.type "type")=true)
   (zQ:PySem.W.findCls K (.ref dw) (.type "type") "__init__"=some (.val (.builtin "ValueError.__init__")))
   (Di:PySem.W.findIn K (.ref gW) "__setattr__"=some (some (.builtin "object.__setattr__")))
   (yp:PySem.W.findIn K (.ref gW) "at"=some none)
   (xgs:PySem.W.specialIn K (.builtin "object.__class__") "__get__"=some (some (.builtin "getset_descriptor.__get__")))
   (xtk:PySem.W.takesIn K (.builtin "object.__class__")=some true)
   (xnd:[dw,nN,jZ,l9,ia,j8,gW].Nodup)
   (vO:PySem.W.nsIn K mainGlobals "check_counts"=some (some (.ref jC)))
   (wa:K.lookup jC=some ⟨oc_check_counts,od_check_counts,.func (PySem.W.fnOf "check_counts" "check_counts" (bA eu) (bw eu) (ag eu) .none Kv K7 KL Li AD K6),KW⟩)
   (vZ:PySem.W.codeIn K AD "check_counts"=true)
   (vQ:PySem.W.keepIn K (.ref jC)=true)
   (De:PySem.W.nsIn K mainGlobals "is_place"=some (some (.ref gN)))
   (CA:K.lookup gN=some ⟨oc_is_place,od_is_place,.func (PySem.W.fnOf "is_place" "is_place" (bA ik) (bw ik) (ag ik) .none R4 SX Sh S7 HP RO),S6⟩)
   (CP:PySem.W.codeIn K HP "is_place"=true)
   (Dr:PySem.W.keepIn K (.ref gN)=true)
   (zd:PySem.W.nsIn K mainGlobals "check_ends"=some (some (.ref lX)))
   (yV:K.lookup lX=some ⟨oc_check_ends,od_check_ends,.func (PySem.W.fnOf "check_ends" "check_ends" (bA fT) (bw fT) (ag fT) .none NO Oc OH OM Eg OA),OJ⟩)
   (yP:PySem.W.codeIn K Eg "check_ends"=true)
   (zX:PySem.W.keepIn K (.ref lX)=true)
   (zT:PySem.W.nsIn K mainGlobals "other_ends"=some (some (.ref hW)))
   (zP:K.lookup hW=some ⟨oc_other_ends,od_other_ends,.func (PySem.W.fnOf "other_ends" "other_ends" (bA fE) (bw fE) (ag fE) .none Oa Oe OF Oh Ej NQ),Ol⟩)
   (zU:PySem.W.codeIn K Ej "other_ends"=true)
   (zh:PySem.W.keepIn K (.ref hW)=true)
   (wc:PySem.W.nsIn K mainGlobals "check_joined"=some (some (.ref jF)))
   (vV:K.lookup jF=some ⟨oc_check_joined,od_check_joined,.func (PySem.W.fnOf "check_joined" "check_joined" (bA cP) (bw cP) (ag cP) .none KC Kg KJ KB Am KA),Ko⟩)
   (wm:PySem.W.codeIn K Am "check_joined"=true)
   (wy:PySem.W.keepIn K (.ref jF)=true)
   (xF:PySem.W.nsIn K mainGlobals "check_tolls"=some (some (.ref kC)))
   (xy:K.lookup kC=some ⟨oc_check_tolls,od_check_tolls,.func (PySem.W.fnOf "check_tolls" "check_tolls" (bA eT) (bw eT) (ag eT) .none Lm LR Mx Mf Co Mr),LN⟩)
   (xw:PySem.W.codeIn K Co "check_tolls"=true)
   (xq:PySem.W.keepIn K (.ref kC)=true)
   (wB:PySem.W.findIn K (.ref uV) "__init__"=some (some (.ref f_Web___init__)))
   (vY:PySem.W.isFn K (.ref f_Web___init__)=true)
   (wb:K.lookup f_Web___init__=some ⟨oc_Web___init__,od_Web___init__,.func (PySem.W.fnOf "__init__" "Web.__init__" (bA cQ) (bw cQ) (ag cQ) .none KD Ky KP Kp Af J5),Lj⟩)
   (wz:PySem.W.codeIn K Af "Web.__init__"=true)
   (wx:PySem.W.keepIn K (.ref f_Web___init__)=true)
   (BN:PySem.W.nsIn K mainGlobals "_law_tolls"=some (some (.ref nJ)))
   (BM:K.lookup nJ=some ⟨oc_law_tolls,od_law_tolls,.func (PySem.W.fnOf "_law_tolls" "_law_tolls" (bA fL) (bw fL) (ag fL) .none Ra Q3 Rv Rs Gs Qx),PF⟩)
   (AQ:PySem.W.codeIn K Gs "_law_tolls"=true)
   (AO:PySem.W.keepIn K (.ref nJ)=true)
   (BJ:PySem.W.nsIn K mainGlobals "_law_drawn"=some (some (.ref cL)))
   (Bh:K.lookup cL=some ⟨oc_law_drawn,od_law_drawn,.func (PySem.W.fnOf "_law_drawn" "_law_drawn" (bA dj) (bw dj) (ag dj) .none Ql Q9 PX O9 EW Qw),RE⟩)
   (Bm:PySem.W.codeIn K EW "_law_drawn"=true)
   (Bt:PySem.W.keepIn K (.ref cL)=true)
   (Bs:PySem.W.nsIn K mainGlobals "_law_bound"=some (some (.ref nQ)))
   (AN:K.lookup nQ=some ⟨oc_law_bound,od_law_bound,.func (PySem.W.fnOf "_law_bound" "_law_bound" (bA ig) (bw ig) (ag ig) .none Rh QR P4 Rm F2 PJ),Rt⟩)
   (BI:PySem.W.codeIn K F2 "_law_bound"=true)
   (BF:PySem.W.keepIn K (.ref nQ)=true)
   (yI:PySem.W.nsIn K mainGlobals "_law_covers"=some (some (.ref md)))
   (zw:K.lookup md=some ⟨oc_law_covers,od_law_covers,.func (PySem.W.fnOf "_law_covers" "_law_covers" (bA eU) (bw eU) (ag eU) .none Ov NT Oz Od Ep OB),OE⟩)
   (zV:PySem.W.codeIn K Ep "_law_covers"=true)
   (zF:PySem.W.keepIn K (.ref md)=true)
   (CG:PySem.W.nsIn K mainGlobals "_law_done"=some (some (.ref py)))
   (C0:K.lookup py=some ⟨oc_law_done,od_law_done,.func (PySem.W.fnOf "_law_done" "_law_done" (bA fu) (bw fu) (ag fu) .none SG Tf RZ RV Ia Sf),R7⟩)
   (DN:PySem.W.codeIn K Ia "_law_done"=true)
   (DI:PySem.W.keepIn K (.ref py)=true)
   (CV:PySem.W.nsIn K mainGlobals "_law_down"=some (some (.ref jR)))
   (Da:K.lookup jR=some ⟨oc_law_down,od_law_down,.func (PySem.W.fnOf "_law_down" "_law_down" (bA dX) (bw dX) (ag dX) .none RY SI Te Su Ik Sb),RL⟩)
   (DA:PySem.W.codeIn K Ik "_law_down"=true)
   (DY:PySem.W.keepIn K (.ref jR)=true)
   (vw:PySem.W.nsIn K mainGlobals "_law_standings"=some (some (.ref dH)))
   (vx:K.lookup dH=some ⟨oc_law_standings,od_law_standings,.func (PySem.W.fnOf "_law_standings" "_law_standings" (bA bO) (bw bO) (ag bO) .none Jj JE IE Ix yH Ju),JD⟩)
   (uU:PySem.W.codeIn K yH "_law_standings"=true)
   (uW:PySem.W.keepIn K (.ref dH)=true)
   (CQ:PySem.W.nsIn K mainGlobals "_law_edge"=some (some (.ref pH)))
   (DX:K.lookup pH=some ⟨oc_law_edge,od_law_edge,.func (PySem.W.fnOf "_law_edge" "_law_edge" (bA eF) (bw eF) (ag eF) .none RS Td SU Sm HZ Se),SN⟩)
   (Dd:PySem.W.codeIn K HZ "_law_edge"=true)
   (C1:PySem.W.keepIn K (.ref pH)=true)
   (ut:PySem.W.nsIn K mainGlobals "_law_lacks_else"=some (some (.ref iu)))
   (uf:K.lookup iu=some ⟨oc_law_lacks_else,od_law_lacks_else,.func (PySem.W.fnOf "_law_lacks_else" "_law_lacks_else" (bA cH) (bw cH) (ag cH) .none Hq Hl Hk Ho xL GY),HA⟩)
   (tW:PySem.W.codeIn K xL "_law_lacks_else"=true)
   (tQ:PySem.W.keepIn K (.ref iu)=true)
   (za:PySem.W.nsIn K mainGlobals "_law_laying"=some (some (.ref mf)))
   (zA:K.lookup mf=some ⟨oc_law_laying,od_law_laying,.func (PySem.W.fnOf "_law_laying" "_law_laying" (bA dF) (bw dF) (ag dF) .none Oq Ot NM Oo Ea NL),OG⟩)
   (yD:PySem.W.codeIn K Ea "_law_laying"=true)
   (yJ:PySem.W.keepIn K (.ref mf)=true)
   (Ds:PySem.W.nsIn K mainGlobals "_law_toll"=some (some (.ref pI)))
   (DB:K.lookup pI=some ⟨oc_law_toll,od_law_toll,.func (PySem.W.fnOf "_law_toll" "_law_toll" (bA lz) (bw lz) (ag lz) .none SA SL RT SC HR Sz),Sc⟩)
   (CT:PySem.W.codeIn K HR "_law_toll"=true)
   (CB:PySem.W.keepIn K (.ref pI)=true)
   (AV:PySem.W.nsIn K mainGlobals "_law_roads"=some (some (.ref nu)))
   (AM:K.lookup nu=some ⟨oc_law_roads,od_law_roads,.func (PySem.W.fnOf "_law_roads" "_law_roads" (bA c9) (bw c9) (ag c9) .none Pc P1 O7 Pa FX QD),Qv⟩)
   (Bj:PySem.W.codeIn K FX "_law_roads"=true)
   (BO:PySem.W.keepIn K (.ref nu)=true)
   (Bf:PySem.W.nsIn K mainGlobals "_law_steps"=some (some (.ref nV)))
   (Br:K.lookup nV=some ⟨oc_law_steps,od_law_steps,.func (PySem.W.fnOf "_law_steps" "_law_steps" (bA cW) (bw cW) (ag cW) .none RH QN Pm RD Gv Qc),QH⟩)
   (BA:PySem.W.codeIn K Gv "_law_steps"=true)
   (AR:PySem.W.keepIn K (.ref nV)=true)
   (sk:PySem.W.nsIn K mainGlobals "_law_step_spoilt"=some (some (.ref gS)))
   (sE:K.lookup gS=some ⟨oc_law_step_spoilt,od_law_step_spoilt,.func (PySem.W.fnOf "_law_step_spoilt" "_law_step_spoilt" (bA cj) (bw cj) (ag cj) .none Fi Fq FJ FO wI FH),F6⟩)
   (sI:PySem.W.codeIn K wI "_law_step_spoilt"=true)
   (sD:PySem.W.keepIn K (.ref gS)=true)
   (uh:PySem.W.nsIn K mainGlobals "_law_steps_else"=some (some (.ref iy)))
   (tR:K.lookup iy=some ⟨oc_law_steps_else,od_law_steps_else,.func (PySem.W.fnOf "_law_steps_else" "_law_steps_else" (bA bT) (bw bT) (ag bT) .none GX Hs Hi GZ xV Hx),Ha⟩)
   (ui:PySem.W.codeIn K xV "_law_steps_else"=true)
   (ua:PySem.W.keepIn K (.ref iy)=true)
   (Dp:PySem.W.nsIn K mainGlobals "_law_wish"=some (some (.ref pw)))
   (CN:K.lookup pw=some ⟨oc_law_wish,od_law_wish,.func (PySem.W.fnOf "_law_wish" "_law_wish" (bA eW) (bw eW) (ag eW) .none R3 SO Sk SJ HN S3),Tc⟩)
   (DP:PySem.W.codeIn K HN "_law_wish"=true)
   (Dn:PySem.W.keepIn K (.ref pw)=true)
   (xh:PySem.W.nsIn K mainGlobals "check_place"=some (some (.ref eS)))
   (xz:K.lookup eS=some ⟨oc_check_place,od_check_place,.func (PySem.W.fnOf "check_place" "check_place" (bA eB) (bw eB) (ag eB) .none Ll Mw Lr Lw Cn LI),LP⟩)
   (xE:PySem.W.codeIn K Cn "check_place"=true)
   (xD:PySem.W.keepIn K (.ref eS)=true)
   (PY:PySem.W.nsIn K mainGlobals "toll"=some (some (.ref sP)))
   (RI:K.lookup sP=some ⟨oc_toll,od_toll,.func (PySem.W.fnOf "toll" "toll" (bA jw) (bw jw) (ag jw) .none cJa cxa cta cla Ua cPa),cNa⟩)
   (Ro:PySem.W.codeIn K Ua "toll"=true)
   (Pz:PySem.W.keepIn K (.ref sP)=true)
   (Bc:PySem.W.nsIn K mainGlobals "handed_on"=some (some (.ref nW)))
   (Bd:K.lookup nW=some ⟨oc_handed_on,od_handed_on,.func (PySem.W.fnOf "handed_on" "handed_on" (bA fZ) (bw fZ) (ag fZ) .none P9 Pq Qy PV FT Qt),Px⟩)
   (BD:PySem.W.codeIn K FT "handed_on"=true)
   (AX:PySem.W.keepIn K (.ref nW)=true)
   (zY:PySem.W.nsIn K mainGlobals "neighbours"=some (some (.ref hJ)))
   (zr:K.lookup hJ=some ⟨oc_neighbours,od_neighbours,.func (PySem.W.fnOf "neighbours" "neighbours" (bA eV) (bw eV) (ag eV) .none NR Og Oj Ob Er OO),NS⟩)
   (yY:PySem.W.codeIn K Er "neighbours"=true)
   (yZ:PySem.W.keepIn K (.ref hJ)=true)
   (PP:PySem.W.nsIn K mainGlobals "kids"=some (some (.ref sW)))
   (QU:K.lookup sW=some ⟨oc_kids,od_kids,.func (PySem.W.fnOf "kids" "kids" (bA mX) (bw mX) (ag mX) .none cua cva cRa cQa Tz cka),bVa⟩)
   (Q0:PySem.W.codeIn K Tz "kids"=true)
   (Rq:PySem.W.keepIn K (.ref sW)=true)
   (Mm:PySem.W.nsIn K mainGlobals "ahead"=some (some (.ref qj)))
   (Ml:K.lookup qj=some ⟨oc_ahead,od_ahead,.func (PySem.W.fnOf "ahead" "ahead" (bA g9) (bw g9) (ag g9) .none Yh ZX Ze bqa OW ZV),Yb⟩)
   (Mg:PySem.W.codeIn K OW "ahead"=true)
   (Mp:PySem.W.keepIn K (.ref qj)=true)
   (Ps:PySem.W.nsIn K mainGlobals "down"=some (some (.ref y6)))
   (O4:K.lookup y6=some ⟨oc_down,od_down,.func (PySem.W.fnOf "down" "down" (bA jA) (bw jA) (ag jA) .none b2a b0a cca cra Uk cma),bYa⟩)
   (Re:PySem.W.codeIn K Uk "down"=true)
   (QL:PySem.W.keepIn K (.ref y6)=true)
   (Jl:PySem.W.nsIn K mainGlobals "inward"=some (some (.ref tM)))
   (Jv:K.lookup tM=some ⟨oc_inward,od_inward,.func (PySem.W.fnOf "inward" "inward" (bA iw) (bw iw) (ag iw) .none V9 Xg V4 Wg Nq WW),Wk⟩)
   (JV:PySem.W.codeIn K Nq "inward"=true)
   (IM:PySem.W.keepIn K (.ref tM)=true)
   (Bp:PySem.W.nsIn K mainGlobals "is_filled"=some (some (.ref iK)))
   (BK:K.lookup iK=some ⟨oc_is_filled,od_is_filled,.func (PySem.W.fnOf "is_filled" "is_filled" (bA f6) (bw f6) (ag f6) .none Ru QF QW RB F4 Q1),Qb⟩)
   (Bq:PySem.W.codeIn K F4 "is_filled"=true)
   (BL:PySem.W.keepIn K (.ref iK)=true)
   (AJ:PySem.W.nsIn K mainGlobals "laying_of"=some (some (.ref iI)))
   (BC:K.lookup iI=some ⟨oc_laying_of,od_laying_of,.func (PySem.W.fnOf "laying_of" "laying_of" (bA fK) (bw fK) (ag fK) .none QV Q5 O8 Rr FQ PB),RG⟩)
   (BR:PySem.W.codeIn K FQ "laying_of"=true)
   (A2:PySem.W.keepIn K (.ref iI)=true)
   (F0:PySem.W.nsIn K mainGlobals "wish_of"=some (some (.ref rj)))
   (Fd:K.lookup rj=some ⟨oc_wish_of,od_wish_of,.func (PySem.W.fnOf "wish_of" "wish_of" (bA iC) (bw iC) (ag iC) .none Vs UU UP VS KF UW),Vg⟩)
   (EU:PySem.W.codeIn K KF "wish_of"=true)
   (Fb:PySem.W.keepIn K (.ref rj)=true)
   (BQ:PySem.W.nsIn K mainGlobals "standings"=some (some (.ref nI)))
   (Bg:K.lookup nI=some ⟨oc_standings,od_standings,.func (PySem.W.fnOf "standings" "standings" (bA cA) (bw cA) (ag cA) .none Qr RA QK P6 FE Rk),OY⟩)
   (Bz:PySem.W.codeIn K FE "standings"=true)
   (Bk:PySem.W.keepIn K (.ref nI)=true)
   (CI:PySem.W.nsIn K mainGlobals "standing"=some (some (.ref jP)))
   (DW:K.lookup jP=some ⟨oc_standing,od_standing,.func (PySem.W.fnOf "standing" "standing" (bA gg) (bw gg) (ag gg) .none SQ Sw SR Sd HK Sr),Sn⟩)
   (DQ:PySem.W.codeIn K HK "standing"=true)
   (DH:PySem.W.keepIn K (.ref jP)=true)
   (JM:PySem.W.nsIn K mainGlobals "is_met"=some (some (.ref tZ)))
   (JP:K.lookup tZ=some ⟨oc_is_met,od_is_met,.func (PySem.W.fnOf "is_met" "is_met" (bA kF) (bw kF) (ag kF) .none Xh Wj V2 Xv MX Wa),XH⟩)
   (II:PySem.W.codeIn K MX "is_met"=true)
   (Jc:PySem.W.keepIn K (.ref tZ)=true)
   (CK:PySem.W.nsIn K mainGlobals "lacks_of"=some (some (.ref pK)))
   (Dk:K.lookup pK=some ⟨oc_lacks_of,od_lacks_of,.func (PySem.W.fnOf "lacks_of" "lacks_of" (bA gh) (bw gh) (ag gh) .none SM R6 R8 Sq HU S8),SZ⟩)
   (D1:PySem.W.codeIn K HU "lacks_of"=true)
   (DU:PySem.W.keepIn K (.ref pK)=true)
   (JO:PySem.W.nsIn K mainGlobals "covers"=some (some (.ref tT)))
   (JG:K.lookup tT=some ⟨oc_covers,od_covers,.func (PySem.W.fnOf "covers" "covers" (bA kL) (bw kL) (ag kL) .none XN Wf X5 WR MR XB),Wl⟩)
   (Ja:PySem.W.codeIn K MR "covers"=true)
   (Iv:PySem.W.keepIn K (.ref tT)=true)
   (wX:PySem.W.findIn K (.ref gW) "__init__"=some (some (.ref f_BadStep___init__)))
   (qT:PySem.W.isFn K (.ref f_BadStep___init__)=true)
   (rF:K.lookup f_BadStep___init__=some ⟨oc_BadStep___init__,od_BadStep___init__,.func (PySem.W.fnOf "__init__" "BadStep.__init__" (bA d7) (bw d7) (ag d7) .none EJ EI EG EC vG Ew),Ey⟩)
   (rC:PySem.W.codeIn K vG "BadStep.__init__"=true)
   (qW:PySem.W.keepIn K (.ref f_BadStep___init__)=true)
   (Lo:PySem.W.nsIn K mainGlobals "taken"=some (some (.ref qu)))
   (Mi:K.lookup qu=some ⟨oc_taken,od_taken,.func (PySem.W.fnOf "taken" "taken" (bA mL) (bw mL) (ag mL) .none aNa ZJ aJa a7a Pf Zd),aka⟩)
   (LX:PySem.W.codeIn K Pf "taken"=true)
   (LL:PySem.W.keepIn K (.ref qu)=true)
   (Jx:PySem.W.nsIn K mainGlobals "behind"=some (some (.ref tY)))
   (Jt:K.lookup tY=some ⟨oc_behind,od_behind,.func (PySem.W.fnOf "behind" "behind" (bA ir) (bw ir) (ag ir) .none XD WE Wm XA Nm X4),Xo⟩)
   (JS:PySem.W.codeIn K Nm "behind"=true)
   (JT:PySem.W.keepIn K (.ref tY)=true)
   (Fj:PySem.W.nsIn K mainGlobals "is_step"=some (some (.ref rm)))
   (FV:K.lookup rm=some ⟨oc_is_step,od_is_step,.func (PySem.W.fnOf "is_step" "is_step" (bA jc) (bw jc) (ag jc) .none VT Uu VA Vn J6 UI),Vt⟩)
   (FC:PySem.W.codeIn K J6 "is_step"=true)
   (E1:PySem.W.keepIn K (.ref rm)=true)
   (xc:PySem.W.nsIn K mainGlobals "can_be_done"=some (some (.ref kJ)))
   (xC:K.lookup kJ=some ⟨oc_can_be_done,od_can_be_done,.func (PySem.W.fnOf "can_be_done" "can_be_done" (bA eR) (bw eR) (ag eR) .none LO Me Lq Mo Cq Mv),LD⟩)
   (xk:PySem.W.codeIn K Cq "can_be_done"=true)
   (xx:PySem.W.keepIn K (.ref kJ)=true)
   (F5:PySem.W.nsIn K mainGlobals "layings"=some (some (.ref q9)))
   (Go:K.lookup q9=some ⟨oc_layings,od_layings,.func (PySem.W.fnOf "layings" "layings" (bA fe) (bw fe) (ag fe) .none VH UJ Vv Ur Lh VO),UL⟩)
   (Fc:PySem.W.codeIn K Lh "layings"=true)
   (Fg:PySem.W.keepIn K (.ref q9)=true)
   (JL:PySem.W.nsIn K mainGlobals "walked"=some (some (.ref ue)))
   (Jh:K.lookup ue=some ⟨oc_walked,od_walked,.func (PySem.W.fnOf "walked" "walked" (bA kM) (bw kM) (ag kM) .none XT VX Wy XW MT Ww),WM⟩)
   (Ji:PySem.W.codeIn K MT "walked"=true)
   (JQ:PySem.W.keepIn K (.ref ue)=true)
   (FK:PySem.W.nsIn K mainGlobals "lead_to"=some (some (.ref rh)))
   (FA:K.lookup rh=some ⟨oc_lead_to,od_lead_to,.func (PySem.W.fnOf "lead_to" "lead_to" (bA f9) (bw f9) (ag f9) .none UC Vd Vr Vc Ke U7),UR⟩)
   (Ff:PySem.W.codeIn K Ke "lead_to"=true)
   (Fe:PySem.W.keepIn K (.ref rh)=true)
   (Jq:PySem.W.nsIn K mainGlobals "judged"=some (some (.ref tS)))
   (JR:K.lookup tS=some ⟨oc_judged,od_judged,.func (PySem.W.fnOf "judged" "judged" (bA gF) (bw gF) (ag gF) .none WQ Wo Wv Xn MQ Xa),Xr⟩)
   (Jz:PySem.W.codeIn K MQ "judged"=true)
   (IA:PySem.W.keepIn K (.ref tS)=true)
   (OQ:PySem.W.nsIn K mainGlobals "law"=some (some (.ref Vu)))
   (VN:K.lookup Vu=some ⟨oc_law,od_law,.func (PySem.W.fnOf "law" "law" (bA cT) (bw cT) (ag cT) .none XF Wx Wr XU QP Xl),dVa⟩)
   (VQ:PySem.W.codeIn K QP "law"=true)
   (VJ:PySem.W.keepIn K (.ref Vu)=true)
   (Q8:PySem.W.plainGet K uV Str.empty=true)
   (RF:PySem.W.hasDictIn K uV=true)
   (QE:PySem.W.plainOver K uV=true)
   (Pi:PySem.W.findIn K (.ref uV) "__setattr__"=some (some (.builtin "object.__setattr__")))
   (P7:PySem.W.makesIn K uV=true)
   (P5:PySem.W.keepIn K (.ref uV)=true)
   (n_many_Web:PySem.W.findIn K (.ref uV) "many"=some none)
   (n_roads_Web:PySem.W.findIn K (.ref uV) "roads"=some none)
   (z_range:PySem.W.nsIn K mainGlobals "range"=some none)
   (z_zip:PySem.W.nsIn K mainGlobals "zip"=some none)
   (z_len:PySem.W.nsIn K mainGlobals "len"=some none)
   (z_isinstance:PySem.W.nsIn K mainGlobals "isinstance"=some none)
   (z_all:PySem.W.nsIn K mainGlobals "all"=some none)
   (z_int:PySem.W.nsIn K mainGlobals "int"=some none)
   (z_bool:PySem.W.nsIn K mainGlobals "bool"=some none)
   (z_tuple:PySem.W.nsIn K mainGlobals "tuple"=some none)
   (z_list:PySem.W.nsIn K mainGlobals "list"=some none)
   (z_reversed:PySem.W.nsIn K mainGlobals "reversed"=some none)
   (z_sorted:PySem.W.nsIn K mainGlobals "sorted"=some none)
   (z_min:PySem.W.nsIn K mainGlobals "min"=some none)
   (z_enumerate:PySem.W.nsIn K mainGlobals "enumerate"=some none)
   (z_str:PySem.W.nsIn K mainGlobals "str"=some none)
   (z_set:PySem.W.nsIn K mainGlobals "set"=some none)
   (v_MOST_PLACES:PySem.W.nsIn K mainGlobals "MOST_PLACES"=some (some (.int 24 t_MOST_PLACES)))
   (v_LEAST_TOLL:PySem.W.nsIn K mainGlobals "LEAST_TOLL"=some (some (.int 2 t_LEAST_TOLL)))
   (v_MOST_TOLL:PySem.W.nsIn K mainGlobals "MOST_TOLL"=some (some (.int 1000000 t_MOST_TOLL))) :
   ∃ fd:FuncData,(∀ (s:Shared) (v:Value),BindsTo s fd ⟨[v],[]⟩ [("script",v)])/\∀ base:Heap,K.In base->base.Ns mainGlobals mg->FnOk l.prog w K mg base (CXe l.prog w) 12 fa fd ["script"] (OU K):=by
 have e:=hfa.symm.trans (ay X G OQ);cases e
 let T:Txt K mg:=⟨dw,ay X G yE,nN,ay X G Gm,jZ,ay X G D5,l9,ay X G Gh,ia,ay X G zO,j8,ay X G DJ,gW,ay X G DC,uV,ay X G O5,csa zv yO y7 zJ xgs xtk zc zy zR,yy Gq FM Fv Gg xgs xtk Fs E4 Fn,yy CU DF Dm CF xgs xtk DZ yd CS,GF _ _ _ _ _ _ _ _ _ _ _ _ _ _ _ _ yd DG CH C4 C7,yy FF FI Gp F9 xgs xtk F8 An Gk,GF _ _ _ _ _ _ _ _ _ _ _ _ _ _ _ _ An Gf Gj Fz Fl,yy yS yR zt zi xgs xtk zb ve zN,GF _ _ _ _ _ _ _ _ _ _ _ _ _ _ _ _ ve yL ze yK zu,yy D3 CY DV D0 xgs xtk CZ yq Dw,GF _ _ _ _ _ _ _ _ _ _ _ _ _ _ _ _ yq Cz Dc DE CO,yy C2 DL Dt DS xgs xtk ye uR yi,⟨yM,yX,zQ⟩,cMa uR yi ye Di yp,yp,xnd,PySem.W.mg_none_of X G z_range,PySem.W.mg_none_of X G z_zip,PySem.W.mg_none_of X G z_len,PySem.W.mg_none_of X G z_isinstance,PySem.W.mg_none_of X G z_all,PySem.W.mg_none_of X G z_int,PySem.W.mg_none_of X G z_bool,PySem.W.mg_none_of X G z_tuple,PySem.W.mg_none_of X G z_list,PySem.W.mg_none_of X G z_reversed,PySem.W.mg_none_of X G z_sorted,PySem.W.mg_none_of X G z_min,PySem.W.mg_none_of X G z_enumerate,PySem.W.mg_none_of X G z_str,PySem.W.mg_none_of X G z_set,⟨_,ay X G v_MOST_PLACES⟩,⟨_,ay X G v_LEAST_TOLL⟩,⟨_,ay X G v_MOST_TOLL⟩,⟨Q8,RF,QE,Pi⟩,n_many_Web,n_roads_Web⟩
 have BS:=cf (st:=eu) wa vZ vQ;have Lx:=BS.binds (ps:=["many","roads"]) fun _ _ _ _ _ _ us hl=>by obtain ⟨u0,u1,rfl⟩:=us2 hl;rfl
 have lM:Df K mg "check_counts" eu ["many","roads"] jC _:=⟨BS,ay X G vO,Lx⟩;have KM:=cf (st:=ik) CA CP Dr;have VG:=KM.binds (ps:=["many","number"]) fun _ _ _ _ _ _ us hl=>by obtain ⟨u0,u1,rfl⟩:=us2 hl;rfl
 have dW:Df K mg "is_place" ik ["many","number"] gN _:=⟨KM,ay X G De,VG⟩;have Fh:=cf (st:=fT) yV yP zX;have Qu:=Fh.binds (ps:=["many","road"]) fun _ _ _ _ _ _ us hl=>by obtain ⟨u0,u1,rfl⟩:=us2 hl;rfl
 have oO:Df K mg "check_ends" fT ["many","road"] lX _:=⟨Fh,ay X G zd,Qu⟩;have Gx:=cf (st:=fE) zP zU zh;have Pu:=Gx.binds (ps:=["roads","place"]) fun _ _ _ _ _ _ us hl=>by obtain ⟨u0,u1,rfl⟩:=us2 hl;rfl
 have gH:Df K mg "other_ends" fE ["roads","place"] hW _:=⟨Gx,ay X G zT,Pu⟩;have Cl:=cf (st:=cP) vV wm wy;have LZ:=Cl.binds (ps:=["many","roads"]) fun _ _ _ _ _ _ us hl=>by obtain ⟨u0,u1,rfl⟩:=us2 hl;rfl
 have lL:Df K mg "check_joined" cP ["many","roads"] jF _:=⟨Cl,ay X G wc,LZ⟩;have Et:=cf (st:=eT) xy xw xq;have On:=Et.binds (ps:=["road"]) fun _ _ _ _ _ _ us hl=>by obtain ⟨u0,rfl⟩:=us1 hl;rfl
 have mO:Df K mg "check_tolls" eT ["road"] kC _:=⟨Et,ay X G xF,On⟩;have r6:=cf (st:=cQ) wb wz wx;have VI:=r6.binds (ps:=["self","many","roads"]) fun _ _ _ _ _ _ us hl=>by obtain ⟨u0,u1,u2,rfl⟩:=us3 hl;rfl
 have HD:=cf (st:=fL) BM AQ AO;have R0:=HD.binds (ps:=["roads"]) fun _ _ _ _ _ _ us hl=>by obtain ⟨u0,rfl⟩:=us1 hl;rfl
 have qh:Df K mg "_law_tolls" fL ["roads"] nJ _:=⟨HD,ay X G BN,R0⟩;have HB:=cf (st:=dj) Bh Bm Bt;have S9:=HB.binds (ps:=["script","k"]) fun _ _ _ _ _ _ us hl=>by obtain ⟨u0,u1,rfl⟩:=us2 hl;rfl
 have bc:Df K mg "_law_drawn" dj ["script","k"] cL _:=⟨HB,ay X G BJ,S9⟩;have Ip:=cf (st:=ig) AN BI BF;have Tg:=Ip.binds (ps:=["script"]) fun _ _ _ _ _ _ us hl=>by obtain ⟨u0,rfl⟩:=us1 hl;rfl
 have qk:Df K mg "_law_bound" ig ["script"] nQ _:=⟨Ip,ay X G Bs,Tg⟩;have Fm:=cf (st:=eU) zw zV zF;have Ry:=Fm.binds (ps:=["held","wish"]) fun _ _ _ _ _ _ us hl=>by obtain ⟨u0,u1,rfl⟩:=us2 hl;rfl
 have oG:Df K mg "_law_covers" eU ["held","wish"] md _:=⟨Fm,ay X G yI,Ry⟩;have Kq:=cf (st:=fu) C0 DN DI;have Vj:=Kq.binds (ps:=["tolls","laying","steps"]) fun _ _ _ _ _ _ us hl=>by obtain ⟨u0,u1,u2,rfl⟩:=us3 hl;rfl
 have rO:Df K mg "_law_done" fu ["tolls","laying","steps"] py _:=⟨Kq,ay X G CG,Vj⟩;have Kk:=cf (st:=dX) Da DA DY;have Uo:=Kk.binds (ps:=["tolls","many","r"]) fun _ _ _ _ _ _ us hl=>by obtain ⟨u0,u1,u2,rfl⟩:=us3 hl;rfl
 have iT:Df K mg "_law_down" dX ["tolls","many","r"] jR _:=⟨Kk,ay X G CV,Uo⟩;have Aq:=cf (st:=bO) vx uU uW;have KN:=Aq.binds (ps:=["tolls","many","laying","wish","r"]) fun _ _ _ _ _ _ us hl=>by obtain ⟨u0,u1,u2,u3,u4,rfl⟩:=us5 hl;rfl
 have cK:Df K mg "_law_standings" bO ["tolls","many","laying","wish","r"] dH _:=⟨Aq,ay X G vw,KN⟩;have Ks:=cf (st:=eF) DX Dd C1;have UE:=Ks.binds (ps:=["script","tolls","many","laying","wish"]) fun _ _ _ _ _ _ us hl=>by obtain ⟨u0,u1,u2,u3,u4,rfl⟩:=us5 hl;rfl
 have rS:Df K mg "_law_edge" eF ["script","tolls","many","laying","wish"] pH _:=⟨Ks,ay X G CQ,UE⟩;have zS:=cf (st:=cH) uf tW tQ;have IZ:=zS.binds (ps:=["lacks","cell"]) fun _ _ _ _ _ _ us hl=>by obtain ⟨u0,u1,rfl⟩:=us2 hl;rfl
 have jB:Df K mg "_law_lacks_else" cH ["lacks","cell"] iu _:=⟨zS,ay X G ut,IZ⟩;have FZ:=cf (st:=dF) zA yD yJ;have Pw:=FZ.binds (ps:=["script","many","bound"]) fun _ _ _ _ _ _ us hl=>by obtain ⟨u0,u1,u2,rfl⟩:=us3 hl;rfl
 have oH:Df K mg "_law_laying" dF ["script","many","bound"] mf _:=⟨FZ,ay X G za,Pw⟩;have KH:=cf (st:=lz) DB CT CB;have VC:=KH.binds (ps:=["part"]) fun _ _ _ _ _ _ us hl=>by obtain ⟨u0,rfl⟩:=us1 hl;rfl
 have lD:Df K mg "_law_toll" lz ["part"] pI _:=⟨KH,ay X G Ds,VC⟩;have HJ:=cf (st:=c9) AM Bj BO;have Sx:=HJ.binds (ps:=["script","many","shape"]) fun _ _ _ _ _ _ us hl=>by obtain ⟨u0,u1,u2,rfl⟩:=us3 hl;rfl
 have qd:Df K mg "_law_roads" c9 ["script","many","shape"] nu _:=⟨HJ,ay X G AV,Sx⟩;have HL:=cf (st:=cW) Br BA AR;have R5:=HL.binds (ps:=["tolls","many","laying","wish","r"]) fun _ _ _ _ _ _ us hl=>by obtain ⟨u0,u1,u2,u3,u4,rfl⟩:=us5 hl;rfl
 have qt:Df K mg "_law_steps" cW ["tolls","many","laying","wish","r"] nV _:=⟨HL,ay X G Bf,R5⟩;have xQ:=cf (st:=cj) sE sI sD;have Hu:=xQ.binds (ps:=["step","cell","many"]) fun _ _ _ _ _ _ us hl=>by obtain ⟨u0,u1,u2,rfl⟩:=us3 hl;rfl
 have iZ:Df K mg "_law_step_spoilt" cj ["step","cell","many"] gS _:=⟨xQ,ay X G sk,Hu⟩;have zq:=cf (st:=bT) tR ui ua;have IL:=zq.binds (ps:=["steps","tolls","cell","many"]) fun _ _ _ _ _ _ us hl=>by obtain ⟨u0,u1,u2,u3,rfl⟩:=us4 hl;rfl
 have jD:Df K mg "_law_steps_else" bT ["steps","tolls","cell","many"] iy _:=⟨zq,ay X G uh,IL⟩;have Km:=cf (st:=eW) CN DP Dn;have VP:=Km.binds (ps:=["script","many","bound"]) fun _ _ _ _ _ _ us hl=>by obtain ⟨u0,u1,u2,rfl⟩:=us3 hl;rfl
 have rM:Df K mg "_law_wish" eW ["script","many","bound"] pw _:=⟨Km,ay X G Dp,VP⟩;have Eo:=cf (st:=eB) xz xE xD;have Ow:=Eo.binds (ps:=["web","number"]) fun _ _ _ _ _ _ us hl=>by obtain ⟨u0,u1,rfl⟩:=us2 hl;rfl
 have cD:Df K mg "check_place" eB ["web","number"] eS _:=⟨Eo,ay X G xh,Ow⟩;have W4:=cf (st:=jw) RI Ro Pz;have d3a:=W4.binds (ps:=["web","a","b"]) fun _ _ _ _ _ _ us hl=>by obtain ⟨u0,u1,u2,rfl⟩:=us3 hl;rfl
 have ni:Df K mg "toll" jw ["web","a","b"] sP _:=⟨W4,ay X G PY,d3a⟩;have Ij:=cf (st:=fZ) Bd BD AX;have R1:=Ij.binds (ps:=["web","over","place","front"]) fun _ _ _ _ _ _ us hl=>by obtain ⟨u0,u1,u2,u3,rfl⟩:=us4 hl;rfl
 have qv:Df K mg "handed_on" fZ ["web","over","place","front"] nW _:=⟨Ij,ay X G Bc,R1⟩;have F1:=cf (st:=eV) zr yY yZ;have PU:=F1.binds (ps:=["web","a"]) fun _ _ _ _ _ _ us hl=>by obtain ⟨u0,u1,rfl⟩:=us2 hl;rfl
 have gC:Df K mg "neighbours" eV ["web","a"] hJ _:=⟨F1,ay X G zY,PU⟩;have Xp:=cf (st:=mX) QU Q0 Rq;have dBa:=Xp.binds (ps:=["web","place","front"]) fun _ _ _ _ _ _ us hl=>by obtain ⟨u0,u1,u2,rfl⟩:=us3 hl;rfl
 have rH:Df K mg "kids" mX ["web","place","front"] sW _:=⟨Xp,ay X G PP,dBa⟩;have TZ:=cf (st:=g9) Ml Mg Mp;have cAa:=TZ.binds (ps:=["web","r"]) fun _ _ _ _ _ _ us hl=>by obtain ⟨u0,u1,rfl⟩:=us2 hl;rfl
 have oS:Df K mg "ahead" g9 ["web","r"] qj _:=⟨TZ,ay X G Mm,cAa⟩;have XI:=cf (st:=jA) O4 Re QL;have c7a:=XI.binds (ps:=["web","r"]) fun _ _ _ _ _ _ us hl=>by obtain ⟨u0,u1,rfl⟩:=us2 hl;rfl
 have Cg:Df K mg "down" jA ["web","r"] y6 _:=⟨XI,ay X G Ps,c7a⟩;have QO:=cf (st:=iw) Jv JV IM;have YR:=QO.binds (ps:=["web","r"]) fun _ _ _ _ _ _ us hl=>by obtain ⟨u0,u1,rfl⟩:=us2 hl;rfl
 have wk:Df K mg "inward" iw ["web","r"] tM _:=⟨QO,ay X G Jl,YR⟩;have Im:=cf (st:=f6) BK Bq BL;have Sa:=Im.binds (ps:=["web","numbers"]) fun _ _ _ _ _ _ us hl=>by obtain ⟨u0,u1,rfl⟩:=us2 hl;rfl
 have hG:Df K mg "is_filled" f6 ["web","numbers"] iK _:=⟨Im,ay X G Bp,Sa⟩;have HW:=cf (st:=fK) BC BR A2;have RP:=HW.binds (ps:=["web","numbers"]) fun _ _ _ _ _ _ us hl=>by obtain ⟨u0,u1,rfl⟩:=us2 hl;rfl
 have ie:Df K mg "laying_of" fK ["web","numbers"] iI _:=⟨HW,ay X G AJ,RP⟩;have Nf:=cf (st:=iC) Fd EU Fb;have XX:=Nf.binds (ps:=["web","numbers"]) fun _ _ _ _ _ _ us hl=>by obtain ⟨u0,u1,rfl⟩:=us2 hl;rfl
 have uH:Df K mg "wish_of" iC ["web","numbers"] rj _:=⟨Nf,ay X G F0,XX⟩;have HC:=cf (st:=cA) Bg Bz Bk;have SY:=HC.binds (ps:=["web","laying","wish","r"]) fun _ _ _ _ _ _ us hl=>by obtain ⟨u0,u1,u2,u3,rfl⟩:=us4 hl;rfl
 have qg:Df K mg "standings" cA ["web","laying","wish","r"] nI _:=⟨HC,ay X G BQ,SY⟩;have JY:=cf (st:=gg) DW DQ DH;have Up:=JY.binds (ps:=["web","laying","wish","r"]) fun _ _ _ _ _ _ us hl=>by obtain ⟨u0,u1,u2,u3,rfl⟩:=us4 hl;rfl
 have iR:Df K mg "standing" gg ["web","laying","wish","r"] jP _:=⟨JY,ay X G CI,Up⟩;have P0:=cf (st:=kF) JP II Jc;have ZP:=P0.binds (ps:=["web","laying","wish"]) fun _ _ _ _ _ _ us hl=>by obtain ⟨u0,u1,u2,rfl⟩:=us3 hl;rfl
 have vM:Df K mg "is_met" kF ["web","laying","wish"] tZ _:=⟨P0,ay X G JM,ZP⟩;have K2:=cf (st:=gh) Dk D1 DU;have VL:=K2.binds (ps:=["web","laying","wish"]) fun _ _ _ _ _ _ us hl=>by obtain ⟨u0,u1,u2,rfl⟩:=us3 hl;rfl
 have rY:Df K mg "lacks_of" gh ["web","laying","wish"] pK _:=⟨K2,ay X G CK,VL⟩;have QB:=cf (st:=kL) JG Ja Iv;have Y1:=QB.binds (ps:=["laying","numbers"]) fun _ _ _ _ _ _ us hl=>by obtain ⟨u0,u1,rfl⟩:=us2 hl;rfl
 have vN:Df K mg "covers" kL ["laying","numbers"] tT _:=⟨QB,ay X G JO,Y1⟩;have m9:=cf (st:=d7) rF rC qW;have ES:=m9.binds (ps:=["self","at"]) fun _ _ _ _ _ _ us hl=>by obtain ⟨u0,u1,rfl⟩:=us2 hl;rfl
 have Uf:=cf (st:=mL) Mi LX LL;have cKa:=Uf.binds (ps:=["web","step"]) fun _ _ _ _ _ _ us hl=>by obtain ⟨u0,u1,rfl⟩:=us2 hl;rfl
 have oE:Df K mg "taken" mL ["web","step"] qu _:=⟨Uf,ay X G Lo,cKa⟩;have Rb:=cf (st:=ir) Jt JS JT;have a2a:=Rb.binds (ps:=["web","laying","step"]) fun _ _ _ _ _ _ us hl=>by obtain ⟨u0,u1,u2,rfl⟩:=us3 hl;rfl
 have vU:Df K mg "behind" ir ["web","laying","step"] tY _:=⟨Rb,ay X G Jx,a2a⟩;have MC:=cf (st:=jc) FV FC E1;have V3:=MC.binds (ps:=["web","step"]) fun _ _ _ _ _ _ us hl=>by obtain ⟨u0,u1,rfl⟩:=us2 hl;rfl
 have uN:Df K mg "is_step" jc ["web","step"] rm _:=⟨MC,ay X G Fj,V3⟩;have Em:=cf (st:=eR) xC xk xx;have NP:=Em.binds (ps:=["web","laying","step"]) fun _ _ _ _ _ _ us hl=>by obtain ⟨u0,u1,u2,rfl⟩:=us3 hl;rfl
 have mJ:Df K mg "can_be_done" eR ["web","laying","step"] kJ _:=⟨Em,ay X G xc,NP⟩;have Nw:=cf (st:=fe) Go Fc Fg;have V0:=Nw.binds (ps:=["web","laying","steps"]) fun _ _ _ _ _ _ us hl=>by obtain ⟨u0,u1,u2,rfl⟩:=us3 hl;rfl
 have uL:Df K mg "layings" fe ["web","laying","steps"] q9 _:=⟨Nw,ay X G F5,V0⟩;have Qd:=cf (st:=kM) Jh Ji JQ;have YK:=Qd.binds (ps:=["web","laying","steps"]) fun _ _ _ _ _ _ us hl=>by obtain ⟨u0,u1,u2,rfl⟩:=us3 hl;rfl
 have vS:Df K mg "walked" kM ["web","laying","steps"] ue _:=⟨Qd,ay X G JL,YK⟩;have Nr:=cf (st:=f9) FA Ff Fe;have Xd:=Nr.binds (ps:=["web","laying","wish","steps"]) fun _ _ _ _ _ _ us hl=>by obtain ⟨u0,u1,u2,u3,rfl⟩:=us4 hl;rfl
 have uz:Df K mg "lead_to" f9 ["web","laying","wish","steps"] rh _:=⟨Nr,ay X G FK,Xd⟩;have O2:=cf (st:=gF) JR Jz IA;have ZF:=O2.binds (ps:=["web","laying","wish","answer"]) fun _ _ _ _ _ _ us hl=>by obtain ⟨u0,u1,u2,u3,rfl⟩:=us4 hl;rfl
 have kH:Df K mg "judged" gF ["web","laying","wish","answer"] tS _:=⟨O2,ay X G Jq,ZF⟩;have bBa:=cf (st:=cT) VN VQ VJ;have eDa:=bBa.binds (ps:=["script"]) fun _ _ _ _ _ _ us hl=>by obtain ⟨u0,rfl⟩:=us1 hl;rfl
 have esa:Df K mg "law" cT ["script"] fa _:=⟨bBa,ay X G OQ,eDa⟩;refine ⟨PySem.W.fnOf "law" "law" (bA cT) (bw cT) (ag cT) .none XF Wx Wr XU QP Xl,fun s v=>.of_eq rfl,fun base _ _=>?_⟩;have UB:Mk K T.Web f_Web___init__:=⟨P7,wB,vY,P5⟩;have Ay:GK K T.BadStep f_BadStep___init__:=Y4 _ _ _ _ _ _ _ _ _ _ _ _ _ _ _ _ uR CD C8 CC DT qT;have vW:=Kt (P:=l.prog) (w:=w) (base:=base) T b8 lM;have jM:=Sy (P:=l.prog) (w:=w) (base:=base) T b8 dW;have zm:=ON (P:=l.prog) (w:=w) (base:=base) T b8 oO dW jM;have o8:=Ox (P:=l.prog) (w:=w) (base:=base) T b8 gH;have we:=J8 (P:=l.prog) (w:=w) (base:=base) T b8 lL gH o8;have xf:=Md (P:=l.prog) (w:=w) (base:=base) T b8 mO;have G_Web_init:=KU (P:=l.prog) (w:=w) (base:=base) T b8 r6 lM vW oO zm lL we mO xf;have BH:=QT (P:=l.prog) (w:=w) (base:=base) T b8 qh;have cx:=PQ (P:=l.prog) (w:=w) (base:=base) T b8 bc;have Bi:=OX (P:=l.prog) (w:=w) (base:=base) T b8 qk bc cx;have zH:=NY (P:=l.prog) (w:=w) (base:=base) T b8 oG;have C6:=Ss (P:=l.prog) (w:=w) (base:=base) T b8 rO;have r9:=So (P:=l.prog) (w:=w) (base:=base) T b8 iT;have gi:=JB (P:=l.prog) (w:=w) (base:=base) T b8 cK iT r9;have D4:=SV (P:=l.prog) (w:=w) (base:=base) T b8 rS bc cx cK gi;have ug:=GU (P:=l.prog) (w:=w) (base:=base) T b8 jB;have zo:=NU (P:=l.prog) (w:=w) (base:=base) T b8 oH bc cx;have yg:=Sl (P:=l.prog) (w:=w) (base:=base) T b8 lD;have A5:=Qg (P:=l.prog) (w:=w) (base:=base) T b8 qd bc cx lD yg;have Bl:=QI (P:=l.prog) (w:=w) (base:=base) T b8 qt iT r9 cK gi;have si:=FB (P:=l.prog) (w:=w) (base:=base) T b8 iZ;have uq:=Hv (P:=l.prog) (w:=w) (base:=base) T b8 jD iZ si;have D6:=RK (P:=l.prog) (w:=w) (base:=base) T b8 rM bc cx;have gM:=Mn (P:=l.prog) (w:=w) (base:=base) T b8 cD dW jM;have y8:=cja (P:=l.prog) (w:=w) (base:=base) T b8 ni cD gM;have AY:=Rj (P:=l.prog) (w:=w) (base:=base) T b8 qv ni y8;have o6:=OL (P:=l.prog) (w:=w) (base:=base) T b8 gC cD gM gH o8;have B3:=bQa (P:=l.prog) (w:=w) (base:=base) T b8 rH gC o6;have yx:=Zu (P:=l.prog) (w:=w) (base:=base) T b8 oS cD gM rH B3;have P8:=cEa (P:=l.prog) (w:=w) (base:=base) T b8 Cg oS yx rH B3;have JA:=WA (P:=l.prog) (w:=w) (base:=base) T b8 wk oS yx Cg P8;have qe:=OZ (P:=l.prog) (w:=w) (base:=base) T b8 hG;have qi:=Pn (P:=l.prog) (w:=w) (base:=base) T b8 ie hG qe;have Gr:=US (P:=l.prog) (w:=w) (base:=base) T b8 uH hG qe;have BE:=Py (P:=l.prog) (w:=w) (base:=base) T b8 qg qv AY wk JA ie qi uH Gr;have rV:=RU (P:=l.prog) (w:=w) (base:=base) T b8 iR qg BE;have Je:=WL (P:=l.prog) (w:=w) (base:=base) T b8 vM iR rV;have C9:=SE (P:=l.prog) (w:=w) (base:=base) T b8 rY iR rV;have JJ:=X3 (P:=l.prog) (w:=w) (base:=base) T b8 vN;have G_BadStep_init:=EM (P:=l.prog) (w:=w) (base:=base) T b8 m9;have yB:=aca (P:=l.prog) (w:=w) (base:=base) T b8 oE ni y8;have Jg:=WP (P:=l.prog) (w:=w) (base:=base) T b8 vU oE yB;have Fw:=Ve (P:=l.prog) (w:=w) (base:=base) T b8 uN dW jM gC o6;have xb:=Mu (P:=l.prog) (w:=w) (base:=base) T b8 mJ uN Fw oE yB;have E2:=U8 (P:=l.prog) (w:=w) (base:=base) T b8 uL m9 ES Ay G_BadStep_init vU Jg mJ xb ie qi;have IW:=XG (P:=l.prog) (w:=w) (base:=base) T b8 vS uL E2;have FP:=UX (P:=l.prog) (w:=w) (base:=base) T b8 uz vN JJ vS IW;have yF:=W1 (P:=l.prog) (w:=w) (base:=base) T b8 kH vM Je rY C9 uz FP;have ewa:=d8a (P:=l.prog) (w:=w) (base:=base) T b8 esa r6 VI UB G_Web_init qk Bi oG zH rO C6 bc cx rS D4 jB ug oH zo qd A5 cK gi qt Bl jD uq qh BH rM D6 kH yF;exact ewa
theorem walk {l:PySem.W.OpenLaw} {q:Program} {loose:List Str} {XP:(Str->Option Value)->Heap->Prop} {YP:World->Heap->Prop} {d:DefRec} {K:Params->PySem.W.Frag} (hn:l.most=some 63) (hdf:d.params.defaults=[])
   (hY:∀ (w:World) (h:Heap),YP w h->(K w.params).In h)
   (F:∀ (w:World) (mg:Str->Option Value) (fa:Addr) (h:Heap),(K w.params).In h->h.Ns mainGlobals mg->mg d.name=some (.ref fa) ->
     ∃ fd:FuncData,(∀ (s:Shared) (u:Value),BindsTo s fd ⟨[u],[]⟩ [("script",u)])/\∀ base:Heap,(K w.params).In base->base.Ns mainGlobals mg->FnOk l.prog w (K w.params) mg base (CXe l.prog w) 12 fa fd ["script"] (OU (K w.params))) :
   PySem.W.WalkO q loose XP YP l.row.toRowW d [] (fun f vs=>PySem.call f vs) :=
 L2.walk_of (n:=63) (k:=12) (x:="script") (CX:=fun w=>(CXe l.prog w)) (sp:=fun w=>OU (K w.params)) hn (by decide) hdf ⟨rfl,by decide,by decide⟩ hY F (fun _ _ a ns hl _ hS=>⟨a,ns,rfl,hS,hl,fun _=>rfl⟩) fun _ _ _ _ _ z=>b8 _ _ _ _ _ z
end Pk
open PySem PySem.W PyProof.Rows
set_option maxRecDepth 100000 in
set_option maxHeartbeats 0 in
theorem PySem.Challenge.cw_pebbletoll_k28_answers_judged_holds : PySem.Challenge.rw_pebbletoll_k28_answers_judged.Holds := by
 w_on;o_law
 refine PySem.W.holds_open (q:=Hd.qq) (loose:=[]) (Xt:=(fun s=>PySem.W.xlAt Hd.qq [] s && PySem.W.recOk (PySem.W.RowW.records (PySem.W.OpenRow.toRowW (PySem.Challenge.rw_pebbletoll_k28_answers_judged).row)) s)) (XP:=PySem.W.XL Hd.qq []) (Yf:=PySem.W.Hook.obs (PySem.W.kHook Hd.KK Hd.asK Hd.asK_eq)) (Ya:=PySem.W.Hook.val (PySem.W.kHook Hd.KK Hd.asK Hd.asK_eq)) (YP:=PySem.W.Hook.says (PySem.W.kHook Hd.KK Hd.asK Hd.asK_eq)) (N:=6682) Hd.left (PySem.W.Hook.of (PySem.W.kHook Hd.KK Hd.asK Hd.asK_eq)) (PySem.W.Hook.keeps (PySem.W.kHook Hd.KK Hd.asK Hd.asK_eq)) (fun s e=>PySem.W.xl_of s (qQ.mp e).1) PySem.W.XL.keeps (by rfl) (by rfl) (by rfl) (fun s e=>PySem.W.recFacts_of (qQ.mp e).2) (by rfl) (by assumption) (by decide +kernel) ⟨rfl,rfl,rfl,rfl,rfl,by decide +kernel⟩ ?hw ?hc
 (case hw=>w_witness2)
 k_fill
 refine Pk.walk (l:=PySem.Challenge.rw_pebbletoll_k28_answers_judged) rfl rfl (fun w h Y=>PySem.W.kIn_of Y) ?F
 case F =>
   intro w mg fa h KX G hmg;refine' Pk.all_mk KX G hmg ?yE ?Gm ?D5 ?Gh ?zO ?DJ ?DC ?O5 ?zy ?zR ?zv ?yO ?y7 ?zJ ?zc ?E4 ?Fn ?Gq ?FM ?Fv ?Gg ?Fs ?yd ?CS ?CU ?DF ?Dm ?CF ?DZ ?DG ?CH ?C4 ?C7 ?An ?Gk ?FF ?FI ?Gp ?F9 ?F8 ?Gf ?Gj ?Fz ?Fl ?ve ?zN ?yS ?yR ?zt ?zi ?zb ?yL ?ze ?yK ?zu ?yq ?Dw ?D3 ?CY ?DV ?D0 ?CZ ?Cz ?Dc ?DE ?CO ?uR ?yi ?C2 ?DL ?Dt ?DS ?ye ?CD ?C8 ?CC ?DT ?yM ?yX ?zQ ?Di ?yp ?xgs ?xtk ?xnd ?vO ?wa ?vZ ?vQ ?De ?CA ?CP ?Dr ?zd ?yV ?yP ?zX ?zT ?zP ?zU ?zh ?wc ?vV ?wm ?wy ?xF ?xy ?xw ?xq ?wB ?vY ?wb ?wz ?wx ?BN ?BM ?AQ ?AO ?BJ ?Bh ?Bm ?Bt ?Bs ?AN ?BI ?BF ?yI ?zw ?zV ?zF ?CG ?C0 ?DN ?DI ?CV ?Da ?DA ?DY ?vw ?vx ?uU ?uW ?CQ ?DX ?Dd ?C1 ?ut ?uf ?tW ?tQ ?za ?zA ?yD ?yJ ?Ds ?DB ?CT ?CB ?AV ?AM ?Bj ?BO ?Bf ?Br ?BA ?AR ?sk ?sE ?sI ?sD ?uh ?tR ?ui ?ua ?Dp ?CN ?DP ?Dn ?xh ?xz ?xE ?xD ?PY ?RI ?Ro ?Pz ?Bc ?Bd ?BD ?AX ?zY ?zr ?yY ?yZ ?PP ?QU ?Q0 ?Rq ?Mm ?Ml ?Mg ?Mp ?Ps ?O4 ?Re ?QL ?Jl ?Jv ?JV ?IM ?Bp ?BK ?Bq ?BL ?AJ ?BC ?BR ?A2 ?F0 ?Fd ?EU ?Fb ?BQ ?Bg ?Bz ?Bk ?CI ?DW ?DQ ?DH ?JM ?JP ?II ?Jc ?CK ?Dk ?D1 ?DU ?JO ?JG ?Ja ?Iv ?wX ?qT ?rF ?rC ?qW ?Lo ?Mi ?LX ?LL ?Jx ?Jt ?JS ?JT ?Fj ?FV ?FC ?E1 ?xc ?xC ?xk ?xx ?F5 ?Go ?Fc ?Fg ?JL ?Jh ?Ji ?JQ ?FK ?FA ?Ff ?Fe ?Jq ?JR ?Jz ?IA ?OQ ?VN ?VQ ?VJ ?Q8 ?RF ?QE ?Pi ?P7 ?P5 ?n_many_Web ?n_roads_Web ?z_range ?z_zip ?z_len ?z_isinstance ?z_all ?z_int ?z_bool ?z_tuple ?z_list ?z_reversed ?z_sorted ?z_min ?z_enumerate ?z_str ?z_set ?v_MOST_PLACES ?v_LEAST_TOLL ?v_MOST_TOLL
   (case yE=>k_is)
   (case Gm=>k_is)
   (case D5=>k_is)
   (case Gh=>k_is)
   (case zO=>k_is)
   (case DJ=>k_is)
   (case DC=>k_is)
   (case O5=>k_is)
   (case zy=>k_is)
   (case zR=>rfl)
   (case zv=>k_is)
   (case yO=>k_is)
   (case y7=>k_is)
   (case zJ=>k_is)
   (case zc=>k_is)
   (case E4=>k_is)
   (case Fn=>rfl)
   (case Gq=>k_is)
   (case FM=>k_is)
   (case Fv=>k_is)
   (case Gg=>k_is)
   (case Fs=>k_is)
   (case yd=>k_is)
   (case CS=>rfl)
   (case CU=>k_is)
   (case DF=>k_is)
   (case Dm=>k_is)
   (case CF=>k_is)
   (case DZ=>k_is)
   (case DG=>rfl)
   (case CH=>kernel_rfl)
   (case C4=>k_is)
   (case C7=>kernel_rfl)
   (case An=>k_is)
   (case Gk=>rfl)
   (case FF=>k_is)
   (case FI=>k_is)
   (case Gp=>k_is)
   (case F9=>k_is)
   (case F8=>k_is)
   (case Gf=>rfl)
   (case Gj=>kernel_rfl)
   (case Fz=>k_is)
   (case Fl=>kernel_rfl)
   (case ve=>k_is)
   (case zN=>rfl)
   (case yS=>k_is)
   (case yR=>k_is)
   (case zt=>k_is)
   (case zi=>k_is)
   (case zb=>k_is)
   (case yL=>rfl)
   (case ze=>kernel_rfl)
   (case yK=>k_is)
   (case zu=>kernel_rfl)
   (case yq=>k_is)
   (case Dw=>rfl)
   (case D3=>k_is)
   (case CY=>k_is)
   (case DV=>k_is)
   (case D0=>k_is)
   (case CZ=>k_is)
   (case Cz=>rfl)
   (case Dc=>kernel_rfl)
   (case DE=>k_is)
   (case CO=>kernel_rfl)
   (case uR=>k_is)
   (case yi=>rfl)
   (case C2=>k_is)
   (case DL=>k_is)
   (case Dt=>k_is)
   (case DS=>k_is)
   (case ye=>k_is)
   (case CD=>rfl)
   (case C8=>kernel_rfl)
   (case CC=>k_is)
   (case DT=>kernel_rfl)
   (case yM=>k_is)
   (case yX=>k_is)
   (case zQ=>k_is)
   (case Di=>k_is)
   (case yp=>k_is)
   (case xgs=>k_is)
   (case xtk=>k_is)
   (case xnd=>decide)
   (case vO=>k_is)
   (case wa=>k_is)
   (case vZ=>k_is)
   (case vQ=>k_is)
   (case De=>k_is)
   (case CA=>k_is)
   (case CP=>k_is)
   (case Dr=>k_is)
   (case zd=>k_is)
   (case yV=>k_is)
   (case yP=>k_is)
   (case zX=>k_is)
   (case zT=>k_is)
   (case zP=>k_is)
   (case zU=>k_is)
   (case zh=>k_is)
   (case wc=>k_is)
   (case vV=>k_is)
   (case wm=>k_is)
   (case wy=>k_is)
   (case xF=>k_is)
   (case xy=>k_is)
   (case xw=>k_is)
   (case xq=>k_is)
   (case wB=>k_is)
   (case vY=>k_is)
   (case wb=>k_is)
   (case wz=>k_is)
   (case wx=>k_is)
   (case BN=>k_is)
   (case BM=>k_is)
   (case AQ=>k_is)
   (case AO=>k_is)
   (case BJ=>k_is)
   (case Bh=>k_is)
   (case Bm=>k_is)
   (case Bt=>k_is)
   (case Bs=>k_is)
   (case AN=>k_is)
   (case BI=>k_is)
   (case BF=>k_is)
   (case yI=>k_is)
   (case zw=>k_is)
   (case zV=>k_is)
   (case zF=>k_is)
   (case CG=>k_is)
   (case C0=>k_is)
   (case DN=>k_is)
   (case DI=>k_is)
   (case CV=>k_is)
   (case Da=>k_is)
   (case DA=>k_is)
   (case DY=>k_is)
   (case vw=>k_is)
   (case vx=>k_is)
   (case uU=>k_is)
   (case uW=>k_is)
   (case CQ=>k_is)
   (case DX=>k_is)
   (case Dd=>k_is)
   (case C1=>k_is)
   (case ut=>k_is)
   (case uf=>k_is)
   (case tW=>k_is)
   (case tQ=>k_is)
   (case za=>k_is)
   (case zA=>k_is)
   (case yD=>k_is)
   (case yJ=>k_is)
   (case Ds=>k_is)
   (case DB=>k_is)
   (case CT=>k_is)
   (case CB=>k_is)
   (case AV=>k_is)
   (case AM=>k_is)
   (case Bj=>k_is)
   (case BO=>k_is)
   (case Bf=>k_is)
   (case Br=>k_is)
   (case BA=>k_is)
   (case AR=>k_is)
   (case sk=>k_is)
   (case sE=>k_is)
   (case sI=>k_is)
   (case sD=>k_is)
   (case uh=>k_is)
   (case tR=>k_is)
   (case ui=>k_is)
   (case ua=>k_is)
   (case Dp=>k_is)
   (case CN=>k_is)
   (case DP=>k_is)
   (case Dn=>k_is)
   (case xh=>k_is)
   (case xz=>k_is)
   (case xE=>k_is)
   (case xD=>k_is)
   (case PY=>k_is)
   (case RI=>k_is)
   (case Ro=>k_is)
   (case Pz=>k_is)
   (case Bc=>k_is)
   (case Bd=>k_is)
   (case BD=>k_is)
   (case AX=>k_is)
   (case zY=>k_is)
   (case zr=>k_is)
   (case yY=>k_is)
   (case yZ=>k_is)
   (case PP=>k_is)
   (case QU=>k_is)
   (case Q0=>k_is)
   (case Rq=>k_is)
   (case Mm=>k_is)
   (case Ml=>k_is)
   (case Mg=>k_is)
   (case Mp=>k_is)
   (case Ps=>k_is)
   (case O4=>k_is)
   (case Re=>k_is)
   (case QL=>k_is)
   (case Jl=>k_is)
   (case Jv=>k_is)
   (case JV=>k_is)
   (case IM=>k_is)
   (case Bp=>k_is)
   (case BK=>k_is)
   (case Bq=>k_is)
   (case BL=>k_is)
   (case AJ=>k_is)
   (case BC=>k_is)
   (case BR=>k_is)
   (case A2=>k_is)
   (case F0=>k_is)
   (case Fd=>k_is)
   (case EU=>k_is)
   (case Fb=>k_is)
   (case BQ=>k_is)
   (case Bg=>k_is)
   (case Bz=>k_is)
   (case Bk=>k_is)
   (case CI=>k_is)
   (case DW=>k_is)
   (case DQ=>k_is)
   (case DH=>k_is)
   (case JM=>k_is)
   (case JP=>k_is)
   (case II=>k_is)
   (case Jc=>k_is)
   (case CK=>k_is)
   (case Dk=>k_is)
   (case D1=>k_is)
   (case DU=>k_is)
   (case JO=>k_is)
   (case JG=>k_is)
   (case Ja=>k_is)
   (case Iv=>k_is)
   (case wX=>k_is)
   (case qT=>k_is)
   (case rF=>k_is)
   (case rC=>k_is)
   (case qW=>k_is)
   (case Lo=>k_is)
   (case Mi=>k_is)
   (case LX=>k_is)
   (case LL=>k_is)
   (case Jx=>k_is)
   (case Jt=>k_is)
   (case JS=>k_is)
   (case JT=>k_is)
   (case Fj=>k_is)
   (case FV=>k_is)
   (case FC=>k_is)
   (case E1=>k_is)
   (case xc=>k_is)
   (case xC=>k_is)
   (case xk=>k_is)
   (case xx=>k_is)
   (case F5=>k_is)
   (case Go=>k_is)
   (case Fc=>k_is)
   (case Fg=>k_is)
   (case JL=>k_is)
   (case Jh=>k_is)
   (case Ji=>k_is)
   (case JQ=>k_is)
   (case FK=>k_is)
   (case FA=>k_is)
   (case Ff=>k_is)
   (case Fe=>k_is)
   (case Jq=>k_is)
   (case JR=>k_is)
   (case Jz=>k_is)
   (case IA=>k_is)
   (case OQ=>k_is)
   (case VN=>k_is)
   (case VQ=>k_is)
   (case VJ=>k_is)
   (case Q8=>k_is)
   (case RF=>k_is)
   (case QE=>k_is)
   (case Pi=>k_is)
   (case P7=>k_is)
   (case P5=>k_is)
   (case n_many_Web=>k_is)
   (case n_roads_Web=>k_is)
   (case z_range=>k_is)
   (case z_zip=>k_is)
   (case z_len=>k_is)
   (case z_isinstance=>k_is)
   (case z_all=>k_is)
   (case z_int=>k_is)
   (case z_bool=>k_is)
   (case z_tuple=>k_is)
   (case z_list=>k_is)
   (case z_reversed=>k_is)
   (case z_sorted=>k_is)
   (case z_min=>k_is)
   (case z_enumerate=>k_is)
   (case z_str=>k_is)
   (case z_set=>k_is)
   (case v_MOST_PLACES=>k_is)
   (case v_LEAST_TOLL=>k_is)
   (case v_MOST_TOLL=>k_is)
#print axioms PySem.Challenge.cw_pebbletoll_k28_answers_judged_holds